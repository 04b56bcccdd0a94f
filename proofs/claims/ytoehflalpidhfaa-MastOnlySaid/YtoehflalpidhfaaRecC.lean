/-
  What each function of package rec does: numbered, fits, Right, put, get.
-/
import Derived.Test.YtoehflalpidhfaaRecB
import Derived.Test.YtoehflalpidhfaaWordC
import Derived.Test.YtoehflalpidhfaaClass
namespace Go.Proofs.Ytoehflalpidhfaa
open Go.RowKit Word Rec
set_option linter.unusedVariables false

theorem numbered_any (n : Int) (w : World) : Calls Try.prog 42 #[.int .i64 n] w fun e w' => e = .returned (.bool (numB n)) ∧ w = w' := by
  by_cases h : 1 ≤ n
  · by_cases h2 : n ≤ 1099511627776
    · have HN := Lib.hid (numB_yes ⟨h, h2⟩)
      go_enter Try.func42, Try.ntmps42
      go_wp2
      go_ret
      exact ⟨ret_bool HN.out, rfl⟩
    · have HN := Lib.hid (numB_no (n := n) (fun q => h2 q.2))
      go_enter Try.func42, Try.ntmps42
      go_wp2
      go_ret
      exact ⟨ret_bool HN.out, rfl⟩
  · have HN := Lib.hid (numB_no (n := n) (fun q => h q.1))
    go_enter Try.func42, Try.ntmps42
    go_wp2
    go_ret
    exact ⟨ret_bool HN.out, rfl⟩

theorem recput_any (g at_ n : Nat) (x : Int) (zs : List Int) (w : World) (h8 : n ≤ 8) (hn : 1 ≤ n) (hf : at_ + n ≤ 64) (hl : zs.length = 64) (hx : 0 ≤ x ∧ x < 9223372036854775808) (hb : Box w g 28 (bs zs)) :
    Calls Try.prog 50 #[.pointer (some ⟨g, 0, none⟩), .int .i64 at_, .int .i64 n, .int .i64 x] w fun e w' => e = .returned (.tuple #[]) ∧ Box w' g 28 (bs (put zs at_ n x)) ∧ w.grownBy w' (some g) := by
  have HP := Lib.hid (put_yes (e := 28) g g 64 64 at_ n x w (by decide) h8 hn hf zs (hb.own (by rw [bs_length, hl]) (by decide) g (Nat.le_refl _)))
  have hx0 := hx.1
  have hx1 := hx.2
  clear hb hx
  go_enter Try.func50, Try.ntmps50
  go_wp2_with fail
  refine HP.out.mono ?_
  rintro e w' ⟨rfl, hown, hg⟩
  have H := Lib.hid (And.intro (Box.of_own hown (by omega)) hg)
  clear hown hg HP
  go_wp2
  go_end0
  exact ⟨rfl, H.out.1, H.out.2⟩

theorem recget_any (at_ n : Nat) (zs : List Int) (w : World) (h8 : n ≤ 8) (hn : 1 ≤ n) (hf : at_ + n ≤ 64) (hl : zs.length = 64) (hb : octets zs) :
    Calls Try.prog 57 #[.agg (bs zs).toArray, .int .i64 at_, .int .i64 n] w fun e w' => e = .returned (.int .i64 (i64 (get zs at_ n))) ∧ Below w.heap.size w w' := by
  have hbx := Box.new w 28 (bs zs)
  have hB := (Below.refl w.heap.size w).alloc (Nat.le_refl _) (.cells (bs zs).toArray 28 (0, 0))
  have HG := Lib.hid (get_yes (some ⟨w.heap.size, 0, none⟩) 64 64 at_ n (w.alloc (.cells (bs zs).toArray 28)) (by decide) h8 hn hf zs hb hl _ (Rd.own (hbx.own (by rw [bs_length, hl]) (by decide) 0 (Nat.zero_le _))))
  have hg := get_bounds zs at_ n hb
  have HI := Lib.hid (show IntKind.i64.wrap (get zs at_ n) = i64 (get zs at_ n) from rfl)
  generalize get zs at_ n = v at *
  generalize i64 v = iv at *
  clear hbx
  go_enter Try.func57, Try.ntmps57
  go_wp2_with fail
  refine HG.out.mono ?_
  rintro e w' ⟨rfl, rfl⟩
  have H := Lib.hid hB
  clear hB HG
  go_wp2
  go_ret
  exact ⟨ret_int (by rw [← HI.out]; exact IntWalk.i64_left v), H.out⟩

set_option maxRecDepth 100000 in
set_option maxHeartbeats 1000000 in
theorem recfits_any (r : Rc) (w : World) (hi : In r) :
    Calls Try.prog 43 #[.agg (rcs r).toArray] w fun e w' => e = .returned (.bool (fitsB r)) ∧ Below w.heap.size w w' := by
  have hbx := Box.new w 53 (rcs r)
  have hB := (Below.refl w.heap.size w).alloc (Nat.le_refl _) (.cells (rcs r).toArray 53 (0, 0))
  obtain ⟨c0, c1, c2, c3, c4⟩ := hbx.rc
  have cd := hbx.rcData
  obtain ⟨m, hm, hsz⟩ := big_size (P := Try.prog) (t := 51) (s := 32) (by kernel_rfl)
  have hld := big_load0 Try.prog w.heap.size 5 (bs r.data) m (by rw [bs_length, hi.1, hm]) _ cd
  have hm0 : ¬ m = 0 := by omega
  have hq := fun w' => equal_data w' r.data z32 hi.1 rfl
  have hgd := guard_data
  have HBD := Lib.hid build_data
  have HB := Lib.hid hB
  generalize hz : (r.data == z32) = zb at hq
  have HZ := Lib.hid (show zb = true ↔ r.data = z32 by rw [← hz]; exact beq_iff_eq)
  generalize hW : w.alloc (.cells (rcs r).toArray 53) = W at *
  have HX := Lib.hid (show ∃ X : List Value, bs r.data = X from ⟨_, rfl⟩)
  generalize bs r.data = X at hld hq
  generalize bs z32 = Y at HBD hq
  have HW := Lib.hid hW
  clear hm hz hB hbx cd HX
  have blk : ∀ x : Int, (∃ b : Bool, (b = true ↔ (0 ≤ x ∧ x < 4096)) ∧ ((0 ≤ x ∧ x < 4096 ∧ b = true) ∨ (¬ 0 ≤ x ∧ b = false) ∨ (0 ≤ x ∧ ¬ x < 4096 ∧ b = false))) := fun x => by
    by_cases h1 : 0 ≤ x
    · by_cases h2 : x < 4096
      · exact ⟨true, by simp [h1, h2], .inl ⟨h1, h2, rfl⟩⟩
      · exact ⟨false, by simp [h2], .inr (.inr ⟨h1, h2, rfl⟩)⟩
    · exact ⟨false, by simp [h1], .inr (.inl ⟨h1, rfl⟩)⟩
  obtain ⟨bl, hbl, hcase⟩ := blk r.block
  have HF : Hid (fitsB r = ((r.kind == 1 && bl && r.count == 0) || (r.kind == 2 && bl && r.count == 0 && zb) || (r.kind == 3 && (r.block == 0 || r.block == 1) && (decide (0 ≤ r.count) && decide (r.count ≤ 4096)) && zb))) := Lib.hid (by
    unfold fitsB Fits
    rw [Bool.eq_iff_iff]
    simp only [decide_eq_true_eq, Bool.or_eq_true, Bool.and_eq_true, beq_iff_eq, hbl, HZ.out, and_assoc, or_assoc])
  clear hbl HZ hi
  generalize fitsB r = fb at HF
  obtain ⟨kind, epoch, seq, block, count, data⟩ := r
  simp only at *
  by_cases k1 : kind = 1
  · subst k1
    rcases hcase with ⟨h1, h2, rfl⟩ | ⟨h1, rfl⟩ | ⟨h1, h2, rfl⟩ <;>
    · go_enter Try.func43, Try.ntmps43
      go_wp2_with (with_reducible refine wpList_build_zero _ (o := ⟨_, .build _ _, _, _, _, _⟩) rfl _ rfl Y HBD.out ?_)
      all_goals go_ret
      all_goals exact ⟨ret_bool (by rw [HF.out]; clear HW hW HBD hq hld hsz c0 c1 c2 c3 c4; first | (simp; done) | (simp [*]; done) | (cases zb <;> simp [*] <;> omega) | (cases zb <;> simp_all)), HB.out⟩
  · by_cases k2 : kind = 2
    · subst k2
      rcases hcase with ⟨h1, h2, rfl⟩ | ⟨h1, rfl⟩ | ⟨h1, h2, rfl⟩ <;>
      · go_enter Try.func43, Try.ntmps43
        go_wp2_with (with_reducible refine wpList_build_zero _ (o := ⟨_, .build _ _, _, _, _, _⟩) rfl _ rfl Y HBD.out ?_)
        all_goals go_ret
        all_goals exact ⟨ret_bool (by rw [HF.out]; clear HW hW HBD hq hld hsz c0 c1 c2 c3 c4; first | (simp; done) | (simp [*]; done) | (cases zb <;> simp [*] <;> omega) | (cases zb <;> simp_all)), HB.out⟩
    · by_cases k3 : kind = 3
      · subst k3
        have hcnt : (0 ≤ count ∧ count ≤ 4096) ∨ (¬ 0 ≤ count) ∨ (0 ≤ count ∧ ¬ count ≤ 4096) := by omega
        by_cases b0 : block = 0
        · subst b0
          clear hcase
          rcases hcnt with ⟨g1, g2⟩ | g1 | ⟨g1, g2⟩ <;>
          · go_enter Try.func43, Try.ntmps43
            go_wp2_with (with_reducible refine wpList_build_zero _ (o := ⟨_, .build _ _, _, _, _, _⟩) rfl _ rfl Y HBD.out ?_)
            all_goals go_ret
            all_goals exact ⟨ret_bool (by rw [HF.out]; clear HW hW HBD hq hld hsz c0 c1 c2 c3 c4; first | (simp; done) | (simp [*]; done) | (cases zb <;> simp [*] <;> omega) | (cases zb <;> simp_all)), HB.out⟩
        · by_cases b1 : block = 1
          · subst b1
            clear hcase
            rcases hcnt with ⟨g1, g2⟩ | g1 | ⟨g1, g2⟩ <;>
            · go_enter Try.func43, Try.ntmps43
              go_wp2_with (with_reducible refine wpList_build_zero _ (o := ⟨_, .build _ _, _, _, _, _⟩) rfl _ rfl Y HBD.out ?_)
              all_goals go_ret
              all_goals exact ⟨ret_bool (by rw [HF.out]; clear HW hW HBD hq hld hsz c0 c1 c2 c3 c4; first | (simp; done) | (simp [*]; done) | (cases zb <;> simp [*] <;> omega) | (cases zb <;> simp_all)), HB.out⟩
          · rcases hcase with ⟨h1, h2, rfl⟩ | ⟨h1, rfl⟩ | ⟨h1, h2, rfl⟩ <;>
            · go_enter Try.func43, Try.ntmps43
              go_wp2_with (with_reducible refine wpList_build_zero _ (o := ⟨_, .build _ _, _, _, _, _⟩) rfl _ rfl Y HBD.out ?_)
              all_goals go_ret
              all_goals exact ⟨ret_bool (by rw [HF.out]; clear HW hW HBD hq hld hsz c0 c1 c2 c3 c4; first | (simp; done) | (simp [*]; done) | (cases zb <;> simp [*] <;> omega) | (cases zb <;> simp_all)), HB.out⟩
      · rcases hcase with ⟨h1, h2, rfl⟩ | ⟨h1, rfl⟩ | ⟨h1, h2, rfl⟩ <;>
        · go_enter Try.func43, Try.ntmps43
          go_wp2_with (with_reducible refine wpList_build_zero _ (o := ⟨_, .build _ _, _, _, _, _⟩) rfl _ rfl Y HBD.out ?_)
          all_goals go_ret
          all_goals exact ⟨ret_bool (by rw [HF.out]; clear HW hW HBD hq hld hsz c0 c1 c2 c3 c4; first | (simp; done) | (simp [*]; done) | (cases zb <;> simp [*] <;> omega) | (cases zb <;> simp_all)), HB.out⟩

set_option maxRecDepth 100000 in
set_option maxHeartbeats 1000000 in
theorem recright_any (r : Rc) (w : World) (hi : In r) :
    Calls Try.prog 22 #[.agg (rcs r).toArray] w fun e w' => e = .returned (.bool (okB r)) ∧ Below w.heap.size w w' := by
  have hbx := Box.new w 53 (rcs r)
  have hB := (Below.refl w.heap.size w).alloc (Nat.le_refl _) (.cells (rcs r).toArray 53 (0, 0))
  obtain ⟨c0, c1, c2, c3, c4⟩ := hbx.rc
  obtain ⟨m, hm, hsz⟩ := big_size (P := Try.prog) (t := 53) (s := 37) (by kernel_rfl)
  have hld := big_load0 Try.prog w.heap.size 0 (rcs r) m (by rw [rcs_length hi.1, hm]) _ hbx.range0
  have hm0 : ¬ m = 0 := by omega
  have HB := Lib.hid hB
  have HE := Lib.hid fun w' => numbered_any r.epoch w'
  have HS := Lib.hid fun w' => numbered_any r.seq w'
  have HFT := Lib.hid fun w' => recfits_any r w' hi
  have HF := Lib.hid (okB_eq r)
  generalize hW : w.alloc (.cells (rcs r).toArray 53) = W at *
  generalize okB r = ob at HF ⊢
  generalize numB r.epoch = ne at *
  generalize numB r.seq = ns at *
  generalize fitsB r = fb at *
  generalize rcs r = R at *
  clear hm hB hbx
  cases ne with
  | false =>
    go_enter Try.func22, Try.ntmps22
    go_wp2_with (go_at_call 42; refine (HE.out _).mono ?_; rintro e w' ⟨rfl, rfl⟩)
    go_ret
    exact ⟨ret_bool HF.out, HB.out⟩
  | true =>
    cases ns with
    | false =>
      go_enter Try.func22, Try.ntmps22
      go_wp2_with (go_at_call 42; (first | (with_reducible refine (HE.out _).mono ?_) | (with_reducible refine (HS.out _).mono ?_)); rintro e w' ⟨rfl, rfl⟩)
      go_ret
      exact ⟨ret_bool HF.out, HB.out⟩
    | true =>
      go_enter Try.func22, Try.ntmps22
      go_wp2_with (first | (go_at_call 42; (first | (with_reducible refine (HE.out _).mono ?_) | (with_reducible refine (HS.out _).mono ?_)); rintro e w' ⟨rfl, rfl⟩) | (go_at_call 43; refine (HFT.out _).mono ?_; rintro e w' ⟨rfl, hb⟩))
      go_ret
      exact ⟨ret_bool HF.out, bthen HB.out hb⟩
end Go.Proofs.Ytoehflalpidhfaa

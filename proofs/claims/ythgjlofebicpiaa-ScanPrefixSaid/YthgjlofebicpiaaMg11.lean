/-
  WordC Class RecC
-/
import Derived.Test.YthgjlofebicpiaaProg
import Derived.Test.YthgjlofebicpiaaMg01
import Derived.WalkSpells
import Derived.WalkLawsBesides
import Derived.OpenShut
import Derived.Deep.QuietTactic
import Derived.BigQuiet
import Derived.IntWalk
import Derived.Deep.Quiet
import Derived.Test.YthgjlofebicpiaaMg08
/-
  What each function of package word, and of the document's answers for it, does: one contract a function.
-/
namespace Go.Proofs.Ythgjlofebicpiaa
open Go.RowKit Word

theorem inside_yes (A : Option Addr) (len cap : Nat) (at_ n : Int) (w : World) (hl : len ≤ maxLen) (h1 : 1 ≤ n) (h8 : n ≤ 8) (h0 : 0 ≤ at_) (hf : at_ + n ≤ len) :
    Calls Try.prog 110 #[.slice A len cap, .int .i64 at_, .int .i64 n] w fun e w' => e = .returned (.bool true) ∧ w = w' := by
  unfold maxLen at hl
  have hf' : at_ ≤ len - n := by omega
  go_enter Try.func110, Try.ntmps110
  go_wp2
  all_goals go_ret
  all_goals refine ⟨?_, rfl⟩
  all_goals simp

theorem inside_no (A : Option Addr) (len cap : Nat) (at_ n : Int) (w : World) (hl : len ≤ maxLen) (hf : ¬ (1 ≤ n ∧ n ≤ 8 ∧ 0 ≤ at_ ∧ at_ + n ≤ len)) :
    Calls Try.prog 110 #[.slice A len cap, .int .i64 at_, .int .i64 n] w fun e w' => e = .returned (.bool false) ∧ w = w' := by
  unfold maxLen at hl
  go_enter Try.func110, Try.ntmps110
  go_wp2
  all_goals go_ret
  all_goals refine ⟨?_, rfl⟩
  all_goals first | rfl | (simp; omega)

theorem put_no (A : Option Addr) (len cap : Nat) (at_ n x : Int) (w : World) (hl : len ≤ maxLen) (hf : ¬ (1 ≤ n ∧ n ≤ 8 ∧ 0 ≤ at_ ∧ at_ + n ≤ len)) :
    Calls Try.prog 106 #[.slice A len cap, .int .i64 at_, .int .i64 n, .int .u64 x] w fun e w' => e = .returned (.bool false) ∧ w = w' := by
  have hin := Lib.hid fun w => inside_no A len cap at_ n w hl hf
  clear hf
  go_enter Try.func106, Try.ntmps106
  go_wp2_with (go_at_call 110; refine (hin.out _).mono ?_; rintro e w' ⟨rfl, rfl⟩)
  go_ret
  exact ⟨rfl, rfl⟩

theorem put_yes {e : TypeId} (base g : Nat) (len cap : Nat) (at_ n : Nat) (x : Int) (w : World) (hl : len ≤ maxLen) (h8 : n ≤ 8) (hn : 1 ≤ n) (hf : at_ + n ≤ len) (zs : List Int) 
    (hown : w.ownsRow base e 1 (.slice (some ⟨g, 0, none⟩) len cap) len (bs zs)) :
    Calls Try.prog 106 #[.slice (some ⟨g, 0, none⟩) len cap, .int .i64 at_, .int .i64 n, .int .u64 x] w fun ee w' => ee = .returned (.bool true) ∧
      w'.ownsRow base e 1 (.slice (some ⟨g, 0, none⟩) len cap) len (bs (put zs at_ n x)) ∧ w.grownBy w' (some g) := by
  have hin := Lib.hid fun w => inside_yes (some ⟨g, 0, none⟩) len cap at_ n w hl (by omega) (by omega) (by omega) (by omega)
  have hlen : zs.length = len := by have := hown.1; rw [bs_length] at this; omega
  have HL := Lib.hid hlen
  clear hlen
  unfold maxLen at hl
  have HO := Lib.hid hown
  clear hown
  go_enter Try.func106, Try.ntmps106
  go_wp2_with (go_at_call 110; refine (hin.out _).mono ?_; rintro _ w' ⟨rfl, rfl⟩)
  clear hin
  go_loopw [16] (fun i wr => ∃ k : Nat, k ≤ n ∧ i = .int .i64 k ∧ wr.ownsRow base e 1 (.slice (some ⟨g, 0, none⟩) len cap) len (bs (put zs at_ k x)) ∧ w.grownBy wr (some g)) (fun i _ => n - (intOf i).toNat)
  case atStart => exact ⟨0, by omega, rfl, by rw [put_zero]; exact HO.out, World.grownBy.refl _ _⟩
  case round =>
    obtain ⟨k, hk, rfl, hown, hg⟩ := hrel
    by_cases hlt : k < n
    · have hlp : (put zs at_ k x).length = zs.length := put_length _ _ _ _ (by rw [HL.out]; omega)
      have hc := (hown.cellAt (at_ + k) (by omega)).trans (bs_get (by rw [hlp, HL.out]; omega))
      generalize (put zs at_ k x).getD (at_ + k) 0 = c0 at hc
      have hz := hown.frozenAt (at_ + k)
      have HW := Lib.hid hown
      clear hown hlp
      go_wp2
      go_roundw
      case rel =>
        have h1 := HW.out.stored (at_ + k) (.int .u8 (x / 2 ^ (8 * k) % 256))
        refine ⟨k + 1, by omega, by go_num, ?_, hg.trans h1.2⟩
        rw [← put_succ _ _ _ _ (by rw [HL.out]; omega)]
        have e : bs ((put zs at_ k x).set (at_ + k) (x / 2 ^ (8 * k) % 256)) = (bs (put zs at_ k x)).set (at_ + k) (.int .u8 (x / 2 ^ (8 * k) % 256)) := by simp [bs, List.map_set]
        rw [e]
        exact h1.1
      case measure => simp [intOf]; omega
    · obtain rfl : n = k := by omega
      go_wp2
      go_ret
      exact ⟨rfl, hown, hg⟩

theorem get_no (A : Option Addr) (len cap : Nat) (at_ n : Int) (w : World) (hl : len ≤ maxLen) (hf : ¬ (1 ≤ n ∧ n ≤ 8 ∧ 0 ≤ at_ ∧ at_ + n ≤ len)) :
    Calls Try.prog 105 #[.slice A len cap, .int .i64 at_, .int .i64 n] w fun e w' => e = .returned (.tuple #[.int .u64 0, .bool false]) ∧ w = w' := by
  have hin := Lib.hid fun w => inside_no A len cap at_ n w hl hf
  clear hf
  go_enter Try.func105, Try.ntmps105
  go_wp2_with (go_at_call 110; refine (hin.out _).mono ?_; rintro e w' ⟨rfl, rfl⟩)
  go_ret2
  exact ⟨rfl, rfl⟩

theorem get_yes (A : Option Addr) (len cap : Nat) (at_ n : Nat) (w : World) (hl : len ≤ maxLen) (h8 : n ≤ 8) (hn : 1 ≤ n) (hf : at_ + n ≤ len) (zs : List Int) (hb : octets zs) (hlen : zs.length = len)
    (B : Nat) (hr : Rd w B A (bs zs)) :
    Calls Try.prog 105 #[.slice A len cap, .int .i64 at_, .int .i64 n] w fun e w' => e = .returned (.tuple #[.int .u64 (get zs at_ n), .bool true]) ∧ w = w' := by
  have hin := Lib.hid fun w => inside_yes A len cap at_ n w hl (by omega) (by omega) (by omega) (by omega)
  have HL := Lib.hid hlen
  clear hlen
  unfold maxLen at hl
  go_enter Try.func105, Try.ntmps105
  go_wp2_with (go_at_call 110; refine (hin.out _).mono ?_; rintro e w' ⟨rfl, rfl⟩)
  clear hin
  go_loop [16, 8] (fun i t => ∃ k : Nat, k ≤ n ∧ i = .int .i64 k ∧ t = .int .u64 (get zs at_ k)) (fun i _ => n - (intOf i).toNat)
  case atStart => exact ⟨0, by omega, rfl, by simp [Word.get, val]⟩
  case round =>
    obtain ⟨k, hk, rfl, rfl⟩ := hrel
    by_cases hlt : k < n
    · obtain ⟨ad, rfl, _, hc⟩ := hr.at (bs_get (k := at_ + k) (by rw [HL.out]; omega))
      have HS := Lib.hid (get_succ zs at_ k (by rw [HL.out]; omega))
      have HO := Lib.hid (or_add (get zs at_ k) (zs.getD (at_ + k) 0) k (by omega) (get_bounds zs at_ k hb) (octets_getD hb _).1 (octets_getD hb _).2)
      have hc0 := (octets_getD hb (at_ + k)).1
      have hc1 := (octets_getD hb (at_ + k)).2
      generalize zs.getD (at_ + k) 0 = c at hc HS HO hc0 hc1
      clear hr
      go_wp2
      go_round
      case rel => exact ⟨k + 1, by omega, by go_num, by rw [HS.out, HO.out]⟩
      case measure => simp [intOf]; omega
    · obtain rfl : n = k := by omega
      go_wp2
      go_ret2
      exact ⟨rfl, rfl⟩

def cut (x n : Int) : Int := if n < 1 then 0 else if 8 ≤ n then x else x % 2 ^ (8 * n.toNat)

end Go.Proofs.Ythgjlofebicpiaa

/-
  A region that draws its order, whose operations read cells that stay and whose callees make memory: one walk, in the order of the text, in any world of a class that the prover names. Nothing here speaks of one program.
-/
namespace Go.Proofs.Ythgjlofebicpiaa
open Go.RowKit

section
variable {P : Program}
/-- The class is 'S': the worlds of it are 'f x', so that a fact on the cells of every 'f x' is a rule of the walk's simp. -/
theorem wp_region_class {id : Nat} {Q : Exit → Act → World → Prop} {a : Act} {w : World} {l : List Oper} (S : World → Prop) (hm : P.follows .mixedOrders = true) (hB : Region.lexB .any l.toArray = true) (hS : S w.drew)
    (h : ∀ (X : Type) (_ : Nonempty X) (f : X → World), (∀ x, S (f x)) → (∀ w', S w' → ∃ x, w' = f x) →
      wpQuiet P l.toArray (fun w' => ∃ x, w' = f x) (fun a' => ∀ w', (∃ x, w' = f x) → Q .normal a' w') l a) : (Code.region id l.toArray true).wp P Q a w :=
  wp_region_quiet (C := fun w' => ∃ x : { w' : World // S w' }, w' = x.val) hm hB ⟨⟨w.drew, hS⟩, rfl⟩
    (by simpa using h { w' : World // S w' } ⟨⟨w.drew, hS⟩⟩ (fun x => x.val) (fun x => x.property) (fun w' hw => ⟨⟨w', hw⟩, rfl⟩))

/-- A callee's contract, met in a world of the class. -/
theorem calls_class {X : Type} {f : X → World} {F : FuncId} {args : Array Value} {x : X} {v : Value} {R : World → Prop} (h : Calls P F args (f x) fun e w' => e = .returned v ∧ R w') (hR : ∀ w', R w' → ∃ y, w' = f y) :
    Calls P F args (f x) fun e w'' => e = .returned v ∧ ∃ y, w'' = f y :=
  h.mono fun _ _ ⟨he, hr⟩ => ⟨he, hR _ hr⟩
end
end Go.Proofs.Ythgjlofebicpiaa

/-
  What each function of package rec does: numbered, fits, Right, put, get.
-/
namespace Go.Proofs.Ythgjlofebicpiaa
open Go.RowKit Word Rec
set_option linter.unusedVariables false

theorem numbered_any (n : Int) (w : World) : Calls Try.prog 95 #[.int .i64 n] w fun e w' => e = .returned (.bool (numB n)) ∧ w = w' := by
  by_cases h : 1 ≤ n
  · by_cases h2 : n ≤ 1099511627776
    · have HN := Lib.hid (numB_yes ⟨h, h2⟩)
      go_enter Try.func95, Try.ntmps95
      go_wp2
      go_ret
      exact ⟨ret_bool HN.out, rfl⟩
    · have HN := Lib.hid (numB_no (n := n) (fun q => h2 q.2))
      go_enter Try.func95, Try.ntmps95
      go_wp2
      go_ret
      exact ⟨ret_bool HN.out, rfl⟩
  · have HN := Lib.hid (numB_no (n := n) (fun q => h q.1))
    go_enter Try.func95, Try.ntmps95
    go_wp2
    go_ret
    exact ⟨ret_bool HN.out, rfl⟩

theorem recput_any (g at_ n : Nat) (x : Int) (zs : List Int) (w : World) (h8 : n ≤ 8) (hn : 1 ≤ n) (hf : at_ + n ≤ 64) (hl : zs.length = 64) (hx : 0 ≤ x ∧ x < 9223372036854775808) (hb : Box w g 62 (bs zs)) :
    Calls Try.prog 97 #[.pointer (some ⟨g, 0, none⟩), .int .i64 at_, .int .i64 n, .int .i64 x] w fun e w' => e = .returned (.tuple #[]) ∧ Box w' g 62 (bs (put zs at_ n x)) ∧ w.grownBy w' (some g) := by
  have HP := Lib.hid (put_yes (e := 62) g g 64 64 at_ n x w (by decide) h8 hn hf zs (hb.own (by rw [bs_length, hl]) (by decide) g (Nat.le_refl _)))
  have hx0 := hx.1
  have hx1 := hx.2
  clear hb hx
  go_enter Try.func97, Try.ntmps97
  go_wp2_with fail
  refine HP.out.mono ?_
  rintro e w' ⟨rfl, hown, hg⟩
  have H := Lib.hid (And.intro (Box.of_own hown (by omega)) hg)
  clear hown hg HP
  go_wp2
  go_end0
  exact ⟨rfl, H.out.1, H.out.2⟩

theorem recget_any (at_ n : Nat) (zs : List Int) (w : World) (h8 : n ≤ 8) (hn : 1 ≤ n) (hf : at_ + n ≤ 64) (hl : zs.length = 64) (hb : octets zs) :
    Calls Try.prog 94 #[.agg (bs zs).toArray, .int .i64 at_, .int .i64 n] w fun e w' => e = .returned (.int .i64 (i64 (get zs at_ n))) ∧ Below w.heap.size w w' := by
  have hbx := Box.new w 62 (bs zs)
  have hB := (Below.refl w.heap.size w).alloc (Nat.le_refl _) (.cells (bs zs).toArray 62 (0, 0))
  have HG := Lib.hid (get_yes (some ⟨w.heap.size, 0, none⟩) 64 64 at_ n (w.alloc (.cells (bs zs).toArray 62)) (by decide) h8 hn hf zs hb hl _ (Rd.own (hbx.own (by rw [bs_length, hl]) (by decide) 0 (Nat.zero_le _))))
  have hg := get_bounds zs at_ n hb
  have HI := Lib.hid (show IntKind.i64.wrap (get zs at_ n) = i64 (get zs at_ n) from rfl)
  generalize get zs at_ n = v at *
  generalize i64 v = iv at *
  clear hbx
  go_enter Try.func94, Try.ntmps94
  go_wp2_with fail
  refine HG.out.mono ?_
  rintro e w' ⟨rfl, rfl⟩
  have H := Lib.hid hB
  clear hB HG
  go_wp2
  go_ret
  exact ⟨ret_int (by rw [← HI.out]; exact IntWalk.i64_left v), H.out⟩

set_option maxRecDepth 100000 in
set_option maxHeartbeats 1000000 in
theorem recfits_any (r : Rc) (w : World) (hi : In r) :
    Calls Try.prog 96 #[.agg (rcs r).toArray] w fun e w' => e = .returned (.bool (fitsB r)) ∧ Below w.heap.size w w' := by
  have hbx := Box.new w 50 (rcs r)
  have hB := (Below.refl w.heap.size w).alloc (Nat.le_refl _) (.cells (rcs r).toArray 50 (0, 0))
  obtain ⟨c0, c1, c2, c3, c4⟩ := hbx.rc
  have cd := hbx.rcData
  obtain ⟨m, hm, hsz⟩ := big_size (P := Try.prog) (t := 48) (s := 32) (by kernel_rfl)
  have hld := big_load0 Try.prog w.heap.size 5 (bs r.data) m (by rw [bs_length, hi.1, hm]) _ cd
  have hm0 : ¬ m = 0 := by omega
  have hq := fun w' => equal_data w' r.data z32 hi.1 rfl
  have hgd := guard_data
  have HBD := Lib.hid build_data
  have HB := Lib.hid hB
  generalize hz : (r.data == z32) = zb at hq
  have HZ := Lib.hid (show zb = true ↔ r.data = z32 by rw [← hz]; exact beq_iff_eq)
  generalize hW : w.alloc (.cells (rcs r).toArray 50) = W at *
  have HX := Lib.hid (show ∃ X : List Value, bs r.data = X from ⟨_, rfl⟩)
  generalize bs r.data = X at hld hq
  generalize bs z32 = Y at HBD hq
  have HW := Lib.hid hW
  clear hm hz hB hbx cd HX
  have blk : ∀ x : Int, (∃ b : Bool, (b = true ↔ (0 ≤ x ∧ x < 4096)) ∧ ((0 ≤ x ∧ x < 4096 ∧ b = true) ∨ (¬ 0 ≤ x ∧ b = false) ∨ (0 ≤ x ∧ ¬ x < 4096 ∧ b = false))) := fun x => by
    by_cases h1 : 0 ≤ x
    · by_cases h2 : x < 4096
      · exact ⟨true, by simp [h1, h2], .inl ⟨h1, h2, rfl⟩⟩
      · exact ⟨false, by simp [h2], .inr (.inr ⟨h1, h2, rfl⟩)⟩
    · exact ⟨false, by simp [h1], .inr (.inl ⟨h1, rfl⟩)⟩
  obtain ⟨bl, hbl, hcase⟩ := blk r.block
  have HF : Hid (fitsB r = ((r.kind == 1 && bl && r.count == 0) || (r.kind == 2 && bl && r.count == 0 && zb) || (r.kind == 3 && (r.block == 0 || r.block == 1) && (decide (0 ≤ r.count) && decide (r.count ≤ 4096)) && zb))) := Lib.hid (by
    unfold fitsB Fits
    rw [Bool.eq_iff_iff]
    simp only [decide_eq_true_eq, Bool.or_eq_true, Bool.and_eq_true, beq_iff_eq, hbl, HZ.out, and_assoc, or_assoc])
  clear hbl HZ hi
  generalize fitsB r = fb at HF
  obtain ⟨kind, epoch, seq, block, count, data⟩ := r
  simp only at *
  by_cases k1 : kind = 1
  · subst k1
    rcases hcase with ⟨h1, h2, rfl⟩ | ⟨h1, rfl⟩ | ⟨h1, h2, rfl⟩ <;>
    · go_enter Try.func96, Try.ntmps96
      go_wp2_with (with_reducible refine wpList_build_zero _ (o := ⟨_, .build _ _, _, _, _, _⟩) rfl _ rfl Y HBD.out ?_)
      all_goals go_ret
      all_goals exact ⟨ret_bool (by rw [HF.out]; clear HW hW HBD hq hld hsz c0 c1 c2 c3 c4; first | (simp; done) | (simp [*]; done) | (cases zb <;> simp [*] <;> omega) | (cases zb <;> simp_all)), HB.out⟩
  · by_cases k2 : kind = 2
    · subst k2
      rcases hcase with ⟨h1, h2, rfl⟩ | ⟨h1, rfl⟩ | ⟨h1, h2, rfl⟩ <;>
      · go_enter Try.func96, Try.ntmps96
        go_wp2_with (with_reducible refine wpList_build_zero _ (o := ⟨_, .build _ _, _, _, _, _⟩) rfl _ rfl Y HBD.out ?_)
        all_goals go_ret
        all_goals exact ⟨ret_bool (by rw [HF.out]; clear HW hW HBD hq hld hsz c0 c1 c2 c3 c4; first | (simp; done) | (simp [*]; done) | (cases zb <;> simp [*] <;> omega) | (cases zb <;> simp_all)), HB.out⟩
    · by_cases k3 : kind = 3
      · subst k3
        have hcnt : (0 ≤ count ∧ count ≤ 4096) ∨ (¬ 0 ≤ count) ∨ (0 ≤ count ∧ ¬ count ≤ 4096) := by omega
        by_cases b0 : block = 0
        · subst b0
          clear hcase
          rcases hcnt with ⟨g1, g2⟩ | g1 | ⟨g1, g2⟩ <;>
          · go_enter Try.func96, Try.ntmps96
            go_wp2_with (with_reducible refine wpList_build_zero _ (o := ⟨_, .build _ _, _, _, _, _⟩) rfl _ rfl Y HBD.out ?_)
            all_goals go_ret
            all_goals exact ⟨ret_bool (by rw [HF.out]; clear HW hW HBD hq hld hsz c0 c1 c2 c3 c4; first | (simp; done) | (simp [*]; done) | (cases zb <;> simp [*] <;> omega) | (cases zb <;> simp_all)), HB.out⟩
        · by_cases b1 : block = 1
          · subst b1
            clear hcase
            rcases hcnt with ⟨g1, g2⟩ | g1 | ⟨g1, g2⟩ <;>
            · go_enter Try.func96, Try.ntmps96
              go_wp2_with (with_reducible refine wpList_build_zero _ (o := ⟨_, .build _ _, _, _, _, _⟩) rfl _ rfl Y HBD.out ?_)
              all_goals go_ret
              all_goals exact ⟨ret_bool (by rw [HF.out]; clear HW hW HBD hq hld hsz c0 c1 c2 c3 c4; first | (simp; done) | (simp [*]; done) | (cases zb <;> simp [*] <;> omega) | (cases zb <;> simp_all)), HB.out⟩
          · rcases hcase with ⟨h1, h2, rfl⟩ | ⟨h1, rfl⟩ | ⟨h1, h2, rfl⟩ <;>
            · go_enter Try.func96, Try.ntmps96
              go_wp2_with (with_reducible refine wpList_build_zero _ (o := ⟨_, .build _ _, _, _, _, _⟩) rfl _ rfl Y HBD.out ?_)
              all_goals go_ret
              all_goals exact ⟨ret_bool (by rw [HF.out]; clear HW hW HBD hq hld hsz c0 c1 c2 c3 c4; first | (simp; done) | (simp [*]; done) | (cases zb <;> simp [*] <;> omega) | (cases zb <;> simp_all)), HB.out⟩
      · rcases hcase with ⟨h1, h2, rfl⟩ | ⟨h1, rfl⟩ | ⟨h1, h2, rfl⟩ <;>
        · go_enter Try.func96, Try.ntmps96
          go_wp2_with (with_reducible refine wpList_build_zero _ (o := ⟨_, .build _ _, _, _, _, _⟩) rfl _ rfl Y HBD.out ?_)
          all_goals go_ret
          all_goals exact ⟨ret_bool (by rw [HF.out]; clear HW hW HBD hq hld hsz c0 c1 c2 c3 c4; first | (simp; done) | (simp [*]; done) | (cases zb <;> simp [*] <;> omega) | (cases zb <;> simp_all)), HB.out⟩

set_option maxRecDepth 100000 in
set_option maxHeartbeats 1000000 in
theorem recright_any (r : Rc) (w : World) (hi : In r) :
    Calls Try.prog 72 #[.agg (rcs r).toArray] w fun e w' => e = .returned (.bool (okB r)) ∧ Below w.heap.size w w' := by
  have hbx := Box.new w 50 (rcs r)
  have hB := (Below.refl w.heap.size w).alloc (Nat.le_refl _) (.cells (rcs r).toArray 50 (0, 0))
  obtain ⟨c0, c1, c2, c3, c4⟩ := hbx.rc
  obtain ⟨m, hm, hsz⟩ := big_size (P := Try.prog) (t := 50) (s := 37) (by kernel_rfl)
  have hld := big_load0 Try.prog w.heap.size 0 (rcs r) m (by rw [rcs_length hi.1, hm]) _ hbx.range0
  have hm0 : ¬ m = 0 := by omega
  have HB := Lib.hid hB
  have HE := Lib.hid fun w' => numbered_any r.epoch w'
  have HS := Lib.hid fun w' => numbered_any r.seq w'
  have HFT := Lib.hid fun w' => recfits_any r w' hi
  have HF := Lib.hid (okB_eq r)
  generalize hW : w.alloc (.cells (rcs r).toArray 50) = W at *
  generalize okB r = ob at HF ⊢
  generalize numB r.epoch = ne at *
  generalize numB r.seq = ns at *
  generalize fitsB r = fb at *
  generalize rcs r = R at *
  clear hm hB hbx
  cases ne with
  | false =>
    go_enter Try.func72, Try.ntmps72
    go_wp2_with (go_at_call 95; refine (HE.out _).mono ?_; rintro e w' ⟨rfl, rfl⟩)
    go_ret
    exact ⟨ret_bool HF.out, HB.out⟩
  | true =>
    cases ns with
    | false =>
      go_enter Try.func72, Try.ntmps72
      go_wp2_with (go_at_call 95; (first | (with_reducible refine (HE.out _).mono ?_) | (with_reducible refine (HS.out _).mono ?_)); rintro e w' ⟨rfl, rfl⟩)
      go_ret
      exact ⟨ret_bool HF.out, HB.out⟩
    | true =>
      go_enter Try.func72, Try.ntmps72
      go_wp2_with (first | (go_at_call 95; (first | (with_reducible refine (HE.out _).mono ?_) | (with_reducible refine (HS.out _).mono ?_)); rintro e w' ⟨rfl, rfl⟩) | (go_at_call 96; refine (HFT.out _).mono ?_; rintro e w' ⟨rfl, hb⟩))
      go_ret
      exact ⟨ret_bool HF.out, bthen HB.out hb⟩
end Go.Proofs.Ythgjlofebicpiaa

/-
  LfB WordC LfC RecB
-/
import Derived.Test.YtgnpohkippegpaaGreatMg21
import Derived.Test.YtgnpohkippegpaaGreatMg17
import Derived.Test.YtgnpohkippegpaaGreatProg
import Derived.Test.YtgnpohkippegpaaGreatMg02
import Derived.WalkSpells
import Derived.WalkLawsBesides
import Derived.OpenShut
import Derived.Deep.QuietTactic
import Derived.BigQuiet
import Derived.IntWalk
import Derived.Test.YtgnpohkippegpaaGreatMg00
import Derived.Test.YtgnpohkippegpaaGreatMg20
/-
  Leaves in memory, and their mathematics.
-/

/-
  What each function of package word, and of the document's answers for it, does: one contract a function.
-/
namespace Go.Proofs.YtgnpohkippegpaaGreat
open Go.RowKit Word

theorem inside_yes (A : Option Addr) (len cap : Nat) (at_ n : Int) (w : World) (hl : len ≤ maxLen) (h1 : 1 ≤ n) (h8 : n ≤ 8) (h0 : 0 ≤ at_) (hf : at_ + n ≤ len) :
    Calls Tryz.prog 96 #[.slice A len cap, .int .i64 at_, .int .i64 n] w fun e w' => e = .returned (.bool true) ∧ w = w' := by
  unfold maxLen at hl
  have hf' : at_ ≤ len - n := by omega
  go_enter Tryz.func96, Tryz.ntmps96
  go_wp2
  all_goals go_ret
  all_goals refine ⟨?_, rfl⟩
  all_goals simp

theorem inside_no (A : Option Addr) (len cap : Nat) (at_ n : Int) (w : World) (hl : len ≤ maxLen) (hf : ¬ (1 ≤ n ∧ n ≤ 8 ∧ 0 ≤ at_ ∧ at_ + n ≤ len)) :
    Calls Tryz.prog 96 #[.slice A len cap, .int .i64 at_, .int .i64 n] w fun e w' => e = .returned (.bool false) ∧ w = w' := by
  unfold maxLen at hl
  go_enter Tryz.func96, Tryz.ntmps96
  go_wp2
  all_goals go_ret
  all_goals refine ⟨?_, rfl⟩
  all_goals first | rfl | (simp; omega)

theorem put_no (A : Option Addr) (len cap : Nat) (at_ n x : Int) (w : World) (hl : len ≤ maxLen) (hf : ¬ (1 ≤ n ∧ n ≤ 8 ∧ 0 ≤ at_ ∧ at_ + n ≤ len)) :
    Calls Tryz.prog 75 #[.slice A len cap, .int .i64 at_, .int .i64 n, .int .u64 x] w fun e w' => e = .returned (.bool false) ∧ w = w' := by
  have hin := Lib.hid fun w => inside_no A len cap at_ n w hl hf
  clear hf
  go_enter Tryz.func75, Tryz.ntmps75
  go_wp2_with (go_at_call 96; refine (hin.out _).mono ?_; rintro e w' ⟨rfl, rfl⟩)
  go_ret
  exact ⟨rfl, rfl⟩

theorem put_yes {e : TypeId} (base g : Nat) (len cap : Nat) (at_ n : Nat) (x : Int) (w : World) (hl : len ≤ maxLen) (h8 : n ≤ 8) (hn : 1 ≤ n) (hf : at_ + n ≤ len) (zs : List Int) 
    (hown : w.ownsRow base e 1 (.slice (some ⟨g, 0, none⟩) len cap) len (bs zs)) :
    Calls Tryz.prog 75 #[.slice (some ⟨g, 0, none⟩) len cap, .int .i64 at_, .int .i64 n, .int .u64 x] w fun ee w' => ee = .returned (.bool true) ∧
      w'.ownsRow base e 1 (.slice (some ⟨g, 0, none⟩) len cap) len (bs (put zs at_ n x)) ∧ w.grownBy w' (some g) := by
  have hin := Lib.hid fun w => inside_yes (some ⟨g, 0, none⟩) len cap at_ n w hl (by omega) (by omega) (by omega) (by omega)
  have hlen : zs.length = len := by have := hown.1; rw [bs_length] at this; omega
  have HL := Lib.hid hlen
  clear hlen
  unfold maxLen at hl
  have HO := Lib.hid hown
  clear hown
  go_enter Tryz.func75, Tryz.ntmps75
  go_wp2_with (go_at_call 96; refine (hin.out _).mono ?_; rintro _ w' ⟨rfl, rfl⟩)
  clear hin
  go_loopw [16] (fun i wr => ∃ k : Nat, k ≤ n ∧ i = .int .i64 k ∧ wr.ownsRow base e 1 (.slice (some ⟨g, 0, none⟩) len cap) len (bs (put zs at_ k x)) ∧ w.grownBy wr (some g)) (fun i _ => n - (intOf i).toNat)
  case atStart => exact ⟨0, by omega, rfl, by rw [put_zero]; exact HO.out, World.grownBy.refl _ _⟩
  case round =>
    obtain ⟨k, hk, rfl, hown, hg⟩ := hrel
    by_cases hlt : k < n
    · have hlp : (put zs at_ k x).length = zs.length := put_length _ _ _ _ (by rw [HL.out]; omega)
      have hc := (hown.cellAt (at_ + k) (by omega)).trans (bs_get (by rw [hlp, HL.out]; omega))
      generalize (put zs at_ k x).getD (at_ + k) 0 = c0 at hc
      have hz := hown.frozenAt (at_ + k)
      have HW := Lib.hid hown
      clear hown hlp
      go_wp2
      go_roundw
      case rel =>
        have h1 := HW.out.stored (at_ + k) (.int .u8 (x / 2 ^ (8 * k) % 256))
        refine ⟨k + 1, by omega, by go_num, ?_, hg.trans h1.2⟩
        rw [← put_succ _ _ _ _ (by rw [HL.out]; omega)]
        have e : bs ((put zs at_ k x).set (at_ + k) (x / 2 ^ (8 * k) % 256)) = (bs (put zs at_ k x)).set (at_ + k) (.int .u8 (x / 2 ^ (8 * k) % 256)) := by simp [bs, List.map_set]
        rw [e]
        exact h1.1
      case measure => simp [intOf]; omega
    · obtain rfl : n = k := by omega
      go_wp2
      go_ret
      exact ⟨rfl, hown, hg⟩

theorem get_no (A : Option Addr) (len cap : Nat) (at_ n : Int) (w : World) (hl : len ≤ maxLen) (hf : ¬ (1 ≤ n ∧ n ≤ 8 ∧ 0 ≤ at_ ∧ at_ + n ≤ len)) :
    Calls Tryz.prog 103 #[.slice A len cap, .int .i64 at_, .int .i64 n] w fun e w' => e = .returned (.tuple #[.int .u64 0, .bool false]) ∧ w = w' := by
  have hin := Lib.hid fun w => inside_no A len cap at_ n w hl hf
  clear hf
  go_enter Tryz.func103, Tryz.ntmps103
  go_wp2_with (go_at_call 96; refine (hin.out _).mono ?_; rintro e w' ⟨rfl, rfl⟩)
  go_ret2
  exact ⟨rfl, rfl⟩

theorem get_yes (A : Option Addr) (len cap : Nat) (at_ n : Nat) (w : World) (hl : len ≤ maxLen) (h8 : n ≤ 8) (hn : 1 ≤ n) (hf : at_ + n ≤ len) (zs : List Int) (hb : octets zs) (hlen : zs.length = len)
    (B : Nat) (hr : Rd w B A (bs zs)) :
    Calls Tryz.prog 103 #[.slice A len cap, .int .i64 at_, .int .i64 n] w fun e w' => e = .returned (.tuple #[.int .u64 (get zs at_ n), .bool true]) ∧ w = w' := by
  have hin := Lib.hid fun w => inside_yes A len cap at_ n w hl (by omega) (by omega) (by omega) (by omega)
  have HL := Lib.hid hlen
  clear hlen
  unfold maxLen at hl
  go_enter Tryz.func103, Tryz.ntmps103
  go_wp2_with (go_at_call 96; refine (hin.out _).mono ?_; rintro e w' ⟨rfl, rfl⟩)
  clear hin
  go_loop [16, 8] (fun i t => ∃ k : Nat, k ≤ n ∧ i = .int .i64 k ∧ t = .int .u64 (get zs at_ k)) (fun i _ => n - (intOf i).toNat)
  case atStart => exact ⟨0, by omega, rfl, by simp [Word.get, val]⟩
  case round =>
    obtain ⟨k, hk, rfl, rfl⟩ := hrel
    by_cases hlt : k < n
    · obtain ⟨ad, rfl, _, hc⟩ := hr.at (bs_get (k := at_ + k) (by rw [HL.out]; omega))
      have HS := Lib.hid (get_succ zs at_ k (by rw [HL.out]; omega))
      have HO := Lib.hid (or_add (get zs at_ k) (zs.getD (at_ + k) 0) k (by omega) (get_bounds zs at_ k hb) (octets_getD hb _).1 (octets_getD hb _).2)
      have hc0 := (octets_getD hb (at_ + k)).1
      have hc1 := (octets_getD hb (at_ + k)).2
      generalize zs.getD (at_ + k) 0 = c at hc HS HO hc0 hc1
      clear hr
      go_wp2
      go_round
      case rel => exact ⟨k + 1, by omega, by go_num, by rw [HS.out, HO.out]⟩
      case measure => simp [intOf]; omega
    · obtain rfl : n = k := by omega
      go_wp2
      go_ret2
      exact ⟨rfl, rfl⟩

def cut (x n : Int) : Int := if n < 1 then 0 else if 8 ≤ n then x else x % 2 ^ (8 * n.toNat)

end Go.Proofs.YtgnpohkippegpaaGreat

/-
  What each function of package page does: narrow, Right, placeAt, get.
-/
namespace Go.Proofs.YtgnpohkippegpaaGreat
open Go.RowKit Word Leaf
set_option linter.unusedVariables false

theorem cut32_yes {n : Int} (h : place n) : n % 4294967296 = n := Int.emod_eq_of_lt (by omega) (by omega)
theorem cut32_no {n : Int} (h : ¬ place n) : ¬ n % 4294967296 = n := fun e => h (by have := Int.emod_nonneg n (show (4294967296 : Int) ≠ 0 by decide); have := Int.emod_lt_of_pos n (show (0 : Int) < 4294967296 by decide); omega)
theorem narrow_upto {ps : List Int} (h : ∀ j, j < ps.length → place (ps.getD j 0)) : Narrow ps := by
  intro n hn
  obtain ⟨i, hi, rfl⟩ := List.getElem_of_mem hn
  have := h i hi
  rwa [List.getD_eq_getElem?_getD, List.getElem?_eq_getElem hi] at this
set_option maxRecDepth 100000 in
theorem narrow_any (ps : List Int) (w : World) (hl : ps.length = 10) :
    Calls Tryz.prog 105 #[.agg (is ps).toArray] w fun e w' => e = .returned (.bool (narrowB ps)) ∧ Below w.heap.size w w' := by
  obtain ⟨m, hm, hsz⟩ := big_size (P := Tryz.prog) (t := 84) (s := 10) (by kernel_rfl)
  have hm0 : ¬ m = 0 := by omega
  have HM := Lib.hid hm
  have HL := Lib.hid hl
  have HI := Lib.hid fun w' (k : Nat) (hk : k < 10) => run_index_is w' 84 3 10 ps k Tryz.underlying84 Tryz.underlying3 size_int hl hk
  have HN := Lib.hid (show narrowB ps = decide (Narrow ps) from rfl)
  clear hm hl
  go_enter Tryz.func105, Tryz.ntmps105
  go_wp2_with (first
    | ((with_reducible refine wpList_ten_box (o := ⟨some 1, .box _ _, _, _, _, _⟩) rfl _ rfl ps rfl ?_); intro w1 x0 hB1 hs1; have hld := big_load0 Tryz.prog w.heap.size 0 (is ps) m (by rw [is_length, HL.out, HM.out]) _ x0.range0)
    | fail)
  have HB := Lib.hid hB1
  clear x0 hB1 hs1 hld
  generalize hP : is ps = P at *
  have HP := Lib.hid hP
  clear hP
  go_loop [6] (fun i => ∃ k : Nat, k ≤ 10 ∧ i = .int .i64 k ∧ ∀ j, j < k → place (ps.getD j 0)) (fun i => 10 - (intOf i).toNat)
  case atStart => exact ⟨0, by omega, rfl, fun j hj => by omega⟩
  case round =>
    obtain ⟨k, hk, rfl, hall⟩ := hrel
    by_cases hlt : k < 10
    · have hix := fun w' => HI.out w' k hlt
      have HA := Lib.hid hall
      clear hall
      by_cases hpl : place (ps.getD k 0)
      · have hc := cut32_yes hpl
        have HPl := Lib.hid hpl
        have h0 := hpl.1
        have h1 := hpl.2
        clear hpl
        generalize hx : ps.getD k 0 = x at hix hc HPl h0 h1
        have HX := Lib.hid hx
        clear hx
        go_wp2
        go_round
        case rel =>
          refine ⟨k + 1, by omega, by go_num, fun j hj => ?_⟩
          by_cases hjk : j = k
          · subst hjk; rw [HX.out]; exact HPl.out
          · exact HA.out j (by omega)
        case measure => simp [intOf]; omega
      · have hc := cut32_no hpl
        have HF := Lib.hid (show narrowB ps = false by
          rw [HN.out]
          exact decide_eq_false fun h => hpl (h _ (getD_mem (by rw [HL.out]; exact hlt))))
        clear hpl
        generalize ps.getD k 0 = x at hix hc
        go_wp2
        go_ret
        exact ⟨ret_bool HF.out, HB.out⟩
    · obtain rfl : k = 10 := by omega
      have HT := Lib.hid (show narrowB ps = true by
        rw [HN.out]
        exact decide_eq_true (narrow_upto fun j hj => hall j (by rw [← HL.out]; exact hj)))
      go_wp2
      go_ret
      exact ⟨ret_bool HT.out, HB.out⟩

theorem placeAt_any (i : Nat) (w : World) (hi : i ≤ 10) : Calls Tryz.prog 76 #[.int .i64 i] w fun e w' => e = .returned (.int .i64 ((13 + 4 * i : Nat) : Int)) ∧ w = w' := by
  go_enter Tryz.func76, Tryz.ntmps76
  go_wp2
  go_ret
  exact ⟨ret_int (by omega), rfl⟩

theorem lfget_any (at_ n : Nat) (zs : List Int) (w : World) (h8 : n ≤ 8) (hn : 1 ≤ n) (hf : at_ + n ≤ 64) (hl : zs.length = 64) (hb : octets zs) :
    Calls Tryz.prog 104 #[.agg (bs zs).toArray, .int .i64 at_, .int .i64 n] w fun e w' => e = .returned (.int .i64 (Rec.i64 (get zs at_ n))) ∧ Below w.heap.size w w' := by
  have hbx := Box.new w 43 (bs zs)
  have hB := (Below.refl w.heap.size w).alloc (Nat.le_refl _) (.cells (bs zs).toArray 43 (0, 0))
  have HG := Lib.hid (get_yes (some ⟨w.heap.size, 0, none⟩) 64 64 at_ n (w.alloc (.cells (bs zs).toArray 43)) (by decide) h8 hn hf zs hb hl _ (Rd.own (hbx.own (by rw [bs_length, hl]) (by decide) 0 (Nat.zero_le _))))
  have hg := get_bounds zs at_ n hb
  have HI := Lib.hid (show IntKind.i64.wrap (get zs at_ n) = Rec.i64 (get zs at_ n) from rfl)
  generalize get zs at_ n = v at *
  generalize Rec.i64 v = iv at *
  clear hbx
  go_enter Tryz.func104, Tryz.ntmps104
  go_wp2_with fail
  refine HG.out.mono ?_
  rintro e w' ⟨rfl, rfl⟩
  have H := Lib.hid hB
  clear hB HG
  go_wp2
  go_ret
  exact ⟨ret_int (by rw [← HI.out]; exact IntWalk.i64_left v), H.out⟩

set_option maxRecDepth 100000 in
set_option maxHeartbeats 1000000 in
theorem lfright_any (l : Lf) (w : World) (hi : In l) :
    Calls Tryz.prog 101 #[.agg (lcs l).toArray] w fun e w' => e = .returned (.bool (okB l)) ∧ Below w.heap.size w w' := by
  obtain ⟨m, hm, hsz⟩ := big_size (P := Tryz.prog) (t := 84) (s := 10) (by kernel_rfl)
  have hm0 : ¬ m = 0 := by omega
  have hbx := Box.new w 86 (lcs l)
  have hB := (Below.refl w.heap.size w).alloc (Nat.le_refl _) (.cells (lcs l).toArray 86 (0, 0))
  obtain ⟨c0, c1⟩ := hbx.lf
  have hld := big_load0 Tryz.prog w.heap.size 2 (is l.places) m (by unfold In at hi; rw [is_length, hi, hm]) _ hbx.lfPlaces
  have HB := Lib.hid hB
  have HN := Lib.hid fun w' => narrow_any l.places w' hi
  have HF := Lib.hid (okB_eq l)
  unfold Rec.numB idxB at HF
  generalize hW : w.alloc (.cells (lcs l).toArray 86) = W at *
  have HW := Lib.hid hW
  generalize okB l = ob at HF ⊢
  generalize narrowB l.places = nb at *
  generalize is l.places = R at *
  clear hm hB hbx
  obtain ⟨gen, index, places⟩ := l
  simp only at *
  rcases (show (¬ 1 ≤ gen) ∨ (1 ≤ gen ∧ ¬ gen ≤ 1099511627776) ∨ (1 ≤ gen ∧ gen ≤ 1099511627776) by omega) with g0 | ⟨g0, g1⟩ | ⟨g0, g1⟩ <;>
  rcases (show (¬ 0 ≤ index) ∨ (0 ≤ index ∧ ¬ index ≤ 4096) ∨ (0 ≤ index ∧ index ≤ 4096) by omega) with q0 | ⟨q0, q1⟩ | ⟨q0, q1⟩ <;>
  · go_enter Tryz.func101, Tryz.ntmps101
    go_wp2_with (go_at_call 105; refine (HN.out _).mono ?_; rintro e w' ⟨rfl, hb⟩)
    all_goals go_ret
    all_goals exact ⟨ret_bool (by rw [HF.out]; clear HW hW hld hsz c0 c1; first | (simp [*]; done) | (cases nb <;> first | (simp [*]; done) | (simp [*]; omega))), by first | exact bthen HB.out hb | exact HB.out⟩
end Go.Proofs.YtgnpohkippegpaaGreat

/-
  Records as blocks known whole: made, read, laid, compared.
-/
namespace Go.Proofs.YtgnpohkippegpaaGreat
open Go.RowKit Word Rec
set_option linter.unusedVariables false

/-- a record's cells -/
def rcs (r : Rc) : List Value := .int .i64 r.kind :: .int .i64 r.epoch :: .int .i64 r.seq :: .int .i64 r.block :: .int .i64 r.count :: bs r.data
theorem rcs_length {r : Rc} (h : r.data.length = 32) : (rcs r).length = 37 := by simp [rcs, bs_length, h]
theorem rcs_one (r : Rc) : ∀ u ∈ rcs r, u.oneCell' = true := by
  intro u hu
  simp only [rcs, List.mem_cons] at hu
  rcases hu with rfl | rfl | rfl | rfl | rfl | hu
  · rfl
  · rfl
  · rfl
  · rfl
  · rfl
  · exact bs_one _ u hu
theorem rcs_inj {a b : Rc} (h : rcs a = rcs b) : a = b := by
  unfold rcs at h
  injection h with h0 h
  injection h with h1 h
  injection h with h2 h
  injection h with h3 h
  injection h with h4 h
  have h5 := bs_inj h
  injection h0 with _ h0
  injection h1 with _ h1
  injection h2 with _ h2
  injection h3 with _ h3
  injection h4 with _ h4
  cases a; cases b; simp_all
section
variable {w : World} {b : Nat} {T : TypeId} {r : Rc}
theorem Box.rc (h : Box w b T (rcs r)) : w.cell? ⟨b, 0, none⟩ = some (.int .i64 r.kind) ∧ w.cell? ⟨b, 1, none⟩ = some (.int .i64 r.epoch) ∧ w.cell? ⟨b, 2, none⟩ = some (.int .i64 r.seq) ∧ w.cell? ⟨b, 3, none⟩ = some (.int .i64 r.block) ∧ w.cell? ⟨b, 4, none⟩ = some (.int .i64 r.count) :=
  ⟨h.cell 0, h.cell 1, h.cell 2, h.cell 3, h.cell 4⟩
theorem Box.rcData (h : Box w b T (rcs r)) : w.rangeAt b 5 (bs r.data) := h.range 5 _ fun j v hj => by
  rw [show 5 + j = j + 1 + 1 + 1 + 1 + 1 by omega]
  exact hj
end

section
variable {w : World} {ops : Array Oper} {rest : List Oper} {o : Oper} {a : Act} {Q : Exit → Act → World → Prop}
end
/-- two records are compared -/
def rcEq (a b : Rc) : Bool := a.kind == b.kind && (a.epoch == b.epoch && (a.seq == b.seq && (a.block == b.block && (a.count == b.count && a.data == b.data))))
theorem rcEq_iff (a b : Rc) : rcEq a b = true ↔ a = b := by
  cases a; cases b; simp [rcEq]
section
variable {w : World} {ops : Array Oper} {rest : List Oper} {o : Oper} {a : Act} {Q : Exit → Act → World → Prop}
end
end Go.Proofs.YtgnpohkippegpaaGreat

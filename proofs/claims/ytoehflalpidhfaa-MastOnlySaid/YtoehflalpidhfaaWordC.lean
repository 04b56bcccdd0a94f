/-
  What each function of package word, and of the document's answers for it, does: one contract a function.
-/
import Derived.Test.YtoehflalpidhfaaProg
import Derived.Test.YtoehflalpidhfaaBytes
import Derived.WalkSpells
import Derived.WalkLawsBesides
import Derived.OpenShut
import Derived.Deep.QuietTactic
import Derived.BigQuiet
import Derived.IntWalk
namespace Go.Proofs.Ytoehflalpidhfaa
open Go.RowKit Word

theorem inside_yes (A : Option Addr) (len cap : Nat) (at_ n : Int) (w : World) (hl : len ≤ maxLen) (h1 : 1 ≤ n) (h8 : n ≤ 8) (h0 : 0 ≤ at_) (hf : at_ + n ≤ len) :
    Calls Try.prog 58 #[.slice A len cap, .int .i64 at_, .int .i64 n] w fun e w' => e = .returned (.bool true) ∧ w = w' := by
  unfold maxLen at hl
  have hf' : at_ ≤ len - n := by omega
  go_enter Try.func58, Try.ntmps58
  go_wp2
  all_goals go_ret
  all_goals refine ⟨?_, rfl⟩
  all_goals simp

theorem inside_no (A : Option Addr) (len cap : Nat) (at_ n : Int) (w : World) (hl : len ≤ maxLen) (hf : ¬ (1 ≤ n ∧ n ≤ 8 ∧ 0 ≤ at_ ∧ at_ + n ≤ len)) :
    Calls Try.prog 58 #[.slice A len cap, .int .i64 at_, .int .i64 n] w fun e w' => e = .returned (.bool false) ∧ w = w' := by
  unfold maxLen at hl
  go_enter Try.func58, Try.ntmps58
  go_wp2
  all_goals go_ret
  all_goals refine ⟨?_, rfl⟩
  all_goals first | rfl | (simp; omega)

theorem put_no (A : Option Addr) (len cap : Nat) (at_ n x : Int) (w : World) (hl : len ≤ maxLen) (hf : ¬ (1 ≤ n ∧ n ≤ 8 ∧ 0 ≤ at_ ∧ at_ + n ≤ len)) :
    Calls Try.prog 47 #[.slice A len cap, .int .i64 at_, .int .i64 n, .int .u64 x] w fun e w' => e = .returned (.bool false) ∧ w = w' := by
  have hin := Lib.hid fun w => inside_no A len cap at_ n w hl hf
  clear hf
  go_enter Try.func47, Try.ntmps47
  go_wp2_with (go_at_call 58; refine (hin.out _).mono ?_; rintro e w' ⟨rfl, rfl⟩)
  go_ret
  exact ⟨rfl, rfl⟩

theorem put_yes {e : TypeId} (base g : Nat) (len cap : Nat) (at_ n : Nat) (x : Int) (w : World) (hl : len ≤ maxLen) (h8 : n ≤ 8) (hn : 1 ≤ n) (hf : at_ + n ≤ len) (zs : List Int) 
    (hown : w.ownsRow base e 1 (.slice (some ⟨g, 0, none⟩) len cap) len (bs zs)) :
    Calls Try.prog 47 #[.slice (some ⟨g, 0, none⟩) len cap, .int .i64 at_, .int .i64 n, .int .u64 x] w fun ee w' => ee = .returned (.bool true) ∧
      w'.ownsRow base e 1 (.slice (some ⟨g, 0, none⟩) len cap) len (bs (put zs at_ n x)) ∧ w.grownBy w' (some g) := by
  have hin := Lib.hid fun w => inside_yes (some ⟨g, 0, none⟩) len cap at_ n w hl (by omega) (by omega) (by omega) (by omega)
  have hlen : zs.length = len := by have := hown.1; rw [bs_length] at this; omega
  have HL := Lib.hid hlen
  clear hlen
  unfold maxLen at hl
  have HO := Lib.hid hown
  clear hown
  go_enter Try.func47, Try.ntmps47
  go_wp2_with (go_at_call 58; refine (hin.out _).mono ?_; rintro _ w' ⟨rfl, rfl⟩)
  clear hin
  go_loopw [16] (fun i wr => ∃ k : Nat, k ≤ n ∧ i = .int .i64 k ∧ wr.ownsRow base e 1 (.slice (some ⟨g, 0, none⟩) len cap) len (bs (put zs at_ k x)) ∧ w.grownBy wr (some g)) (fun i _ => n - (intOf i).toNat)
  case atStart => exact ⟨0, by omega, rfl, by rw [put_zero]; exact HO.out, World.grownBy.refl _ _⟩
  case round =>
    obtain ⟨k, hk, rfl, hown, hg⟩ := hrel
    by_cases hlt : k < n
    · have hlp : (put zs at_ k x).length = zs.length := put_length _ _ _ _ (by rw [HL.out]; omega)
      have hc := (hown.cellAt (at_ + k) (by omega)).trans (bs_get (by rw [hlp, HL.out]; omega))
      generalize (put zs at_ k x).getD (at_ + k) 0 = c0 at hc
      have hz := hown.frozenAt (at_ + k)
      have HW := Lib.hid hown
      clear hown hlp
      go_wp2
      go_roundw
      case rel =>
        have h1 := HW.out.stored (at_ + k) (.int .u8 (x / 2 ^ (8 * k) % 256))
        refine ⟨k + 1, by omega, by go_num, ?_, hg.trans h1.2⟩
        rw [← put_succ _ _ _ _ (by rw [HL.out]; omega)]
        have e : bs ((put zs at_ k x).set (at_ + k) (x / 2 ^ (8 * k) % 256)) = (bs (put zs at_ k x)).set (at_ + k) (.int .u8 (x / 2 ^ (8 * k) % 256)) := by simp [bs, List.map_set]
        rw [e]
        exact h1.1
      case measure => simp [intOf]; omega
    · obtain rfl : n = k := by omega
      go_wp2
      go_ret
      exact ⟨rfl, hown, hg⟩

theorem get_no (A : Option Addr) (len cap : Nat) (at_ n : Int) (w : World) (hl : len ≤ maxLen) (hf : ¬ (1 ≤ n ∧ n ≤ 8 ∧ 0 ≤ at_ ∧ at_ + n ≤ len)) :
    Calls Try.prog 60 #[.slice A len cap, .int .i64 at_, .int .i64 n] w fun e w' => e = .returned (.tuple #[.int .u64 0, .bool false]) ∧ w = w' := by
  have hin := Lib.hid fun w => inside_no A len cap at_ n w hl hf
  clear hf
  go_enter Try.func60, Try.ntmps60
  go_wp2_with (go_at_call 58; refine (hin.out _).mono ?_; rintro e w' ⟨rfl, rfl⟩)
  go_ret2
  exact ⟨rfl, rfl⟩

theorem get_yes (A : Option Addr) (len cap : Nat) (at_ n : Nat) (w : World) (hl : len ≤ maxLen) (h8 : n ≤ 8) (hn : 1 ≤ n) (hf : at_ + n ≤ len) (zs : List Int) (hb : octets zs) (hlen : zs.length = len)
    (B : Nat) (hr : Rd w B A (bs zs)) :
    Calls Try.prog 60 #[.slice A len cap, .int .i64 at_, .int .i64 n] w fun e w' => e = .returned (.tuple #[.int .u64 (get zs at_ n), .bool true]) ∧ w = w' := by
  have hin := Lib.hid fun w => inside_yes A len cap at_ n w hl (by omega) (by omega) (by omega) (by omega)
  have HL := Lib.hid hlen
  clear hlen
  unfold maxLen at hl
  go_enter Try.func60, Try.ntmps60
  go_wp2_with (go_at_call 58; refine (hin.out _).mono ?_; rintro e w' ⟨rfl, rfl⟩)
  clear hin
  go_loop [16, 8] (fun i t => ∃ k : Nat, k ≤ n ∧ i = .int .i64 k ∧ t = .int .u64 (get zs at_ k)) (fun i _ => n - (intOf i).toNat)
  case atStart => exact ⟨0, by omega, rfl, by simp [Word.get, val]⟩
  case round =>
    obtain ⟨k, hk, rfl, rfl⟩ := hrel
    by_cases hlt : k < n
    · obtain ⟨ad, rfl, _, hc⟩ := hr.at (bs_get (k := at_ + k) (by rw [HL.out]; omega))
      have HS := Lib.hid (get_succ zs at_ k (by rw [HL.out]; omega))
      have HO := Lib.hid (or_add (get zs at_ k) (zs.getD (at_ + k) 0) k (by omega) (get_bounds zs at_ k hb) (octets_getD hb _).1 (octets_getD hb _).2)
      have hc0 := (octets_getD hb (at_ + k)).1
      have hc1 := (octets_getD hb (at_ + k)).2
      generalize zs.getD (at_ + k) 0 = c at hc HS HO hc0 hc1
      clear hr
      go_wp2
      go_round
      case rel => exact ⟨k + 1, by omega, by go_num, by rw [HS.out, HO.out]⟩
      case measure => simp [intOf]; omega
    · obtain rfl : n = k := by omega
      go_wp2
      go_ret2
      exact ⟨rfl, rfl⟩

def cut (x n : Int) : Int := if n < 1 then 0 else if 8 ≤ n then x else x % 2 ^ (8 * n.toNat)

end Go.Proofs.Ytoehflalpidhfaa

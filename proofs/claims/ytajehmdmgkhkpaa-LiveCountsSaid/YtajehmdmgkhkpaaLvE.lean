/-
  Package live: Of; the mathematics of it.
-/
import Derived.Test.YtajehmdmgkhkpaaLvD
import Derived.Test.YtajehmdmgkhkpaaLf0
namespace Go.Proofs.Ytajehmdmgkhkpaa
open Go.RowKit Geom Lv
set_option linter.unusedVariables false

namespace Lv
/-- the list behind the first k places -/
def ofK (seq size : Int) (ps : List Int) : Nat → Option (List (Int × Int))
  | 0 => some []
  | k + 1 => match ofK seq size ps k with
    | none => none
    | some l => if ps.getD k 0 = 0 then some l else if (doM seq size l (ps.getD k 0) (k : Int) false).2 = true then some (doM seq size l (ps.getD k 0) (k : Int) false).1 else none
section
variable {seq size : Int} {ps : List Int} {k : Nat} {l : List (Int × Int)}
theorem ofK_skip (h : ofK seq size ps k = some l) (h0 : ps.getD k 0 = 0) : ofK seq size ps (k + 1) = some l := by
  unfold ofK; simp only [h, h0, if_pos]
theorem ofK_add (h : ofK seq size ps k = some l) (h0 : ¬ ps.getD k 0 = 0) (h1 : (doM seq size l (ps.getD k 0) (k : Int) false).2 = true) : ofK seq size ps (k + 1) = some (doM seq size l (ps.getD k 0) (k : Int) false).1 := by
  unfold ofK; simp only [h, if_neg h0, h1, if_pos]
theorem ofK_bad (h : ofK seq size ps k = some l) (h0 : ¬ ps.getD k 0 = 0) (h1 : (doM seq size l (ps.getD k 0) (k : Int) false).2 = false) : ofK seq size ps (k + 1) = none := by
  unfold ofK; simp only [h, if_neg h0, h1]; simp
theorem ofK_up (h : ofK seq size ps k = none) : ∀ j, ofK seq size ps (k + j) = none
  | 0 => h
  | j + 1 => by
    show ofK seq size ps (k + j + 1) = none
    unfold ofK
    rw [ofK_up h j]
theorem ofK_over {m : Nat} (h : ofK seq size ps k = none) (hm : k ≤ m) : ofK seq size ps m = none := by
  have := ofK_up h (m - k)
  rwa [show k + (m - k) = m by omega] at this
end
end Lv
/-- what Of answers -/
def LvOf (w : World) (conv soft seq size opn : Int) (n : Nat) (r : Option (List (Int × Int))) (e : Ending) (w' : World) : Prop :=
  match r with
  | none => e = .returned (.tuple #[.pointer none, .bool false])
  | some l => ∃ d b c, e = .returned (.tuple #[lvp d, .bool true]) ∧ LvIs w' d b c n conv soft seq size opn l ∧ w.heap.size ≤ d ∧ w.heap.size ≤ b ∧ w.heap.size ≤ c
set_option maxRecDepth 100000 in
set_option maxHeartbeats 1000000 in
theorem lvof_any (conv soft seq size opn : Int) (w : World) (H : Ok conv soft seq size opn) (A : Option Addr) (cap : Nat) (ps : List Int) (hlen : ps.length ≤ 1000) (hr : Rd w w.heap.size A (is ps)) :
    Calls Try.prog 16 #[.agg #[.int .i64 conv, .int .i64 soft, .int .i64 seq, .int .i64 size, .int .i64 opn], .slice A ps.length cap] w fun e w' => LvOf w conv soft seq size opn ps.length (ofK seq size ps ps.length) e w' ∧ Below w.heap.size w w' := by
  have hb0 : Below w.heap.size w (w.alloc (.cells #[.int .i64 conv, .int .i64 soft, .int .i64 seq, .int .i64 size, .int .i64 opn] 23)) := (Below.refl _ _).alloc (Nat.le_refl _) _
  have HN := Lib.hid fun w => lvnew_any conv soft seq size opn w H
  have HR := Lib.hid hr
  generalize hL : ps.length = len at *
  have HL := Lib.hid hL
  clear hr H hL
  go_enter Try.func16, Try.ntmps16
  go_wp2_with fail
  generalize World.alloc _ _ = w0 at hb0 ⊢
  refine (HN.out _).mono ?_
  rintro e w1 ⟨d, b, c, rfl, t1, hd1, hb1, hc1, hbl1⟩
  have T1 := Lib.hid t1
  have B1 := Lib.hid (bthen hb0 hbl1)
  have G1 := Lib.hid (show w.heap.size ≤ d ∧ w.heap.size ≤ b ∧ w.heap.size ≤ c from by have := hb0.size; omega)
  clear t1 hd1 hb1 hc1 hbl1 hb0 HN
  go_wp2
  go_loopw [13] (fun i wr => ∃ (k : Nat) (l : List (Int × Int)), k ≤ len ∧ i = .int .i64 k ∧ ofK seq size ps k = some l ∧ LvIs wr d b c k conv soft seq size opn l ∧ Below w.heap.size w wr) (fun i _ => len - (intOf i).toNat)
  case atStart => exact ⟨0, [], by omega, rfl, rfl, T1.out, B1.out⟩
  case round =>
    obtain ⟨k, l, hk, rfl, hof, tr, hbl⟩ := hrel
    by_cases hlt : k < len
    · have hki : (k : Int) < (len : Int) := by omega
      obtain ⟨ad, rfl, _, ck⟩ := (HR.out.below hbl).at (is_get (zs := ps) (k := k) (by rw [HL.out]; exact hlt))
      by_cases h0 : ps.getD k 0 = 0
      · have HF := Lib.hid (ofK_skip hof h0)
        have HO := Lib.hid (And.intro tr hbl)
        rw [h0] at ck
        clear h0 hof tr hbl
        go_wp2
        go_roundw
        case rel => exact ⟨k + 1, l, by omega, by go_num, HF.out, HO.out.1.mono (Nat.le_succ _), HO.out.2⟩
        case measure => first | (simp [intOf]; done) | (simp [intOf]; omega)
      · have HA := Lib.hid (lvadd_any wr (ps.getD k 0) (k : Int) tr (by omega))
        cases hd : (doM seq size l (ps.getD k 0) (k : Int) false).2
        · have HF := Lib.hid (ofK_over (ofK_bad hof h0 hd) hlt)
          rw [hd] at HA
          have h0b : (ps.getD k 0 != 0) = true := by simpa using h0
          have HO := Lib.hid (And.intro hbl G1.out)
          clear hof tr hbl h0 hd
          generalize ps.getD k 0 = x at *
          go_wp2_with fail
          refine HA.out.mono ?_
          rintro e w2 ⟨rfl, t2, f2⟩
          have B2 := Lib.hid (HO.out.1.trans (f2.below HO.out.1.size (fun k hk hT => by have := HO.out.2; rcases hT with rfl | rfl <;> omega)))
          clear t2 f2
          go_wp2
          go_ret2
          rw [HF.out]
          exact ⟨rfl, B2.out⟩
        · have HF := Lib.hid (ofK_add hof h0 hd)
          rw [hd] at HA
          have h0b : (ps.getD k 0 != 0) = true := by simpa using h0
          have HO := Lib.hid (And.intro hbl G1.out)
          clear hof tr hbl h0 hd
          generalize ps.getD k 0 = x at *
          go_wp2_with fail
          refine HA.out.mono ?_
          rintro e w2 ⟨rfl, t2, f2⟩
          have B2 := Lib.hid (And.intro t2 (HO.out.1.trans (f2.below HO.out.1.size (fun k hk hT => by have := HO.out.2; rcases hT with rfl | rfl <;> omega))))
          clear t2 f2
          go_wp2
          go_roundw
          case rel => exact ⟨k + 1, _, by omega, by go_num, HF.out, B2.out.1, B2.out.2⟩
          case measure => first | (simp [intOf]; done) | (simp [intOf]; omega)
    · obtain rfl : len = k := by omega
      have HO := Lib.hid (And.intro hof (And.intro tr hbl))
      clear hof tr hbl
      go_wp2
      go_ret2
      rw [HO.out.1]
      exact ⟨⟨_, _, _, rfl, HO.out.2.1, G1.out.1, G1.out.2.1, G1.out.2.2⟩, HO.out.2.2⟩
end Go.Proofs.Ytajehmdmgkhkpaa

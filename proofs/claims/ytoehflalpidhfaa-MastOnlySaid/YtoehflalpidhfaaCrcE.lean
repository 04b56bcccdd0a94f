/-
  What the document's answers for package crc do: Sum, Seal.
-/
import Derived.Test.YtoehflalpidhfaaCrcD
import Derived.RegionTactic
import Derived.ChangeAlike
namespace Go.Proofs.Ytoehflalpidhfaa
open Go.RowKit Word Crc
set_option linter.unusedVariables false

/-- the two arrays, the bits, and what was there ahead -/
structure RegSt (w wr : World) (B : Nat) (V : Value) (n : Nat) (l reg : List Bool) : Prop where
  poly : wr.ownsRow w.heap.size 84 1 (.slice (some ⟨w.heap.size, 0, none⟩) 32 32) 32 (bools polyL)
  reg : wr.ownsRow w.heap.size 84 1 (.slice (some ⟨w.heap.size + 1, 0, none⟩) 32 32) 32 (bools reg)
  bits : wr.ownsRow B 4 1 V n (bools l)
  far : w.heap.size + 2 ≤ B
  below : Below w.heap.size w wr
  size : B ≤ wr.heap.size
theorem RegSt.drewN {w wr : World} {B : Nat} {V : Value} {n : Nat} {l reg : List Bool} (h : RegSt w wr B V n l reg) (q : Nat) : RegSt w (wr.drewN q) B V n l reg := ⟨h.poly, h.reg, h.bits, h.far, below_draws h.below q, h.size⟩
theorem RegSt.drew {w wr : World} {B : Nat} {V : Value} {n : Nat} {l reg : List Bool} (h : RegSt w wr B V n l reg) : RegSt w wr.drew B V n l reg := h.drewN 1
theorem RegSt.store {w wr : World} {B : Nat} {V : Value} {n : Nat} {l reg : List Bool} (h : RegSt w wr B V n l reg) (j : Nat) (b : Bool) : RegSt w (wr.setCell ⟨w.heap.size + 1, j, none⟩ (.bool b)) B V n l (reg.set j b) := by
  have h1 := h.reg.stored j (.bool b)
  have h2 := h.far
  exact ⟨own_grown h.poly h1.2 (by omega), by rw [bools_set]; exact h1.1, own_store h.bits h1.2 (by omega), h.far, below_stored h.below h1.2 h.below.size (by omega), Nat.le_trans h.size h1.2.size⟩
theorem RegSt.cell {w wr : World} {B : Nat} {V : Value} {n : Nat} {l : List Bool} {f : Nat → Bool} (h : RegSt w wr B V n l (tab f)) {j : Nat} (hj : j < 32) : wr.cell? ⟨w.heap.size + 1, j, none⟩ = some (.bool (f j)) := by
  rw [h.reg.cellAt j (by omega), bools_tab hj]
theorem RegSt.polyCell {w wr : World} {B : Nat} {V : Value} {n : Nat} {l reg : List Bool} (h : RegSt w wr B V n l reg) {j : Nat} (hj : j < 32) : wr.cell? ⟨w.heap.size, j, none⟩ = some (.bool (polyL.getD j false)) := by
  rw [h.poly.cellAt j (by omega), bools_get (by simpa [polyL] using hj)]

theorem init_succ (k : Nat) : (tab fun j => decide (j < k)).set k true = tab fun j => decide (j < k + 1) := by
  rw [tab_set]
  apply tab_congr
  intro j _
  by_cases h : j = k
  · subst h; simp
  · by_cases h2 : j < k
    · simp [h, h2, Nat.lt_succ_of_lt h2]
    · simp [h, h2, show ¬ j < k + 1 by omega]
theorem init_all : (tab fun j => decide (j < 32)) = tab full.testBit := by decide
theorem bitrun_getD {l : List Bool} {i : Nat} (h : i < l.length) (r : Nat) : bitrun r (l.take (i + 1)) = bitstep (bitrun r (l.take i)) (l.getD i false) := by
  rw [List.take_succ_eq_append_getElem h, bitrun_snoc]
  simp [List.getD_eq_getElem?_getD, h]

set_option maxRecDepth 100000 in
set_option maxHeartbeats 2000000 in
theorem rsum_any (A : Option Addr) (len cap : Nat) (zs : List Int) (w : World) (hl : len ≤ 65536) (hlen : zs.length = len) (hb : octets zs) (hr : Rd w w.heap.size A (bs zs)) :
    Calls Try.prog 33 #[.slice A len cap] w fun e w' => e = .returned (.int .u32 (Crc.sum zs : Nat)) ∧ Below w.heap.size w w' := by
  have HBits := Lib.hid fun w hr => rbits_any A len cap zs w hl hlen hb hr
  have HLen := Lib.hid ((bitsOf_length zs).trans (by rw [hlen]))
  have HRun := Lib.hid (show Crc.sum zs = inv (bitrun full (bitsOf zs)) by rw [bitrun_bits hb]; rfl)
  generalize bitsOf zs = l at *
  generalize Crc.sum zs = res at *
  clear hlen
  go_enter Try.func33, Try.ntmps33
  go_wp2_with ((with_reducible refine wpList_store_array (o := ⟨none, .store 84 _ _, _, _, _, _⟩) _ rfl _ _ _ rfl 32 _ _ _ rfl rfl (by kernel_rfl) (by kernel_rfl) (by kernel_rfl) (by decide) (by kernel_rfl) ?_); intro w1 hpoly hb1 hz1)
  have hreg : (w1.alloc (.cells (List.replicate 32 (Value.bool false)).toArray 84)).ownsRow w.heap.size 84 1 (.slice (some ⟨w.heap.size + 1, 0, none⟩) 32 32) 32 (bools (List.replicate 32 false)) := by
    have h := World.ownsRow_lit (base := w.heap.size) (e := 84) (size := 1) w1 (List.replicate 32 (Value.bool false)).toArray 32 (by omega) (by decide) rfl
    rw [hz1] at h
    exact h
  have hst0 : RegSt w (w1.alloc (.cells (List.replicate 32 (Value.bool false)).toArray 84)) (w.heap.size + 2) (.slice none 0 0) 0 [] (tab fun j => decide (j < 0)) :=
    ⟨hpoly.alloc _, hreg, World.ownsRow_nil _ _ _ _, Nat.le_refl _, hb1.alloc (by omega) _, by simp [hz1]⟩
  have HST := Lib.hid hst0
  clear hpoly hreg hst0
  go_loopw [5] (fun i wr => ∃ k : Nat, k ≤ 32 ∧ i = .int .i64 k ∧ RegSt w wr (w.heap.size + 2) (.slice none 0 0) 0 [] (tab fun j => decide (j < k))) (fun i _ => 32 - (intOf i).toNat)
  case atStart => exact ⟨0, by omega, rfl, HST.out⟩
  case round =>
    clear HST hb1 hz1
    obtain ⟨k, hk, rfl, hst⟩ := hrel
    by_cases hlt : k < 32
    · have hc := hst.cell hlt
      have hz := hst.reg.frozenAt k
      have HS := Lib.hid hst
      clear hst
      go_wp2
      go_roundw
      case rel => exact ⟨k + 1, by omega, by go_num, by rw [← init_succ]; exact HS.out.store k true⟩
      case measure => simp [intOf]; omega
    · obtain rfl : k = 32 := by omega
      rw [init_all] at hst
      have HS := Lib.hid hst
      have hsz := hst.size
      have hbl := hst.below
      clear hst
      go_wp2_with (go_at_call 52; refine (HBits.out _ ((hr.below hbl).more hbl.size)).mono ?_; rintro e w3 ⟨A3, c3, rfl, hbits, hb3⟩)
      obtain ⟨B2, hst⟩ : ∃ B2, RegSt w w3 B2 (.slice A3 (8 * len) c3) (8 * len) l (tab full.testBit) :=
        ⟨wr.heap.size, own_below HS.out.poly hb3, own_below HS.out.reg hb3, hbits, hsz, hbl.trans (hb3.mono hbl.size), hb3.size⟩
      have HT := Lib.hid hst
      clear hst hbits
      go_loopw [7] (fun i wq => ∃ k : Nat, k ≤ 8 * len ∧ i = .int .i64 k ∧ RegSt w wq B2 (.slice A3 (8 * len) c3) (8 * len) l (tab (bitrun full (l.take k)).testBit)) (fun i _ => 8 * len - (intOf i).toNat)
      case atStart => exact ⟨0, by omega, rfl, HT.out⟩
      case round =>
        clear HT hb3 HS hsz hbl HBits hr
        obtain ⟨k, hk, rfl, hst⟩ := hrel
        have hrl := bitrun_lt full_lt (l.take k)
        by_cases hlt : k < 8 * len
        · have HN := Lib.hid (bitrun_getD (l := l) (i := k) (by rw [HLen.out]; exact hlt) full)
          have hc0 := hst.cell (j := 0) (by decide)
          obtain ⟨ad, rfl, _, hcb⟩ := (Rd.own hst.bits).at (bools_get (k := k) (by rw [HLen.out]; exact hlt))
          have hz31 := hst.reg.frozenAt 31
          generalize bitrun full (l.take k) = r at *
          generalize l.getD k false = b at *
          have HOn := Lib.hid (bitstep_on (r := r) (b := b))
          have HOff := Lib.hid (bitstep_off (r := r) (b := b))
          generalize r.testBit 0 = t0 at *
          have HS := Lib.hid hst
          clear hst
          obtain ⟨out, hq⟩ : ∃ out, (!(t0 == b)) = out := ⟨_, rfl⟩
          have HQ := Lib.hid (show (t0 != b) = out from hq)
          go_wp2
          go_quiet (fail)
          clear hq hc0 hcb
          go_wp2
          go_loopw [9] (fun i wx => ∃ j : Nat, j ≤ 31 ∧ i = .int .i64 j ∧ RegSt w wx B2 (.slice (some ad) (8 * len) c3) (8 * len) l (shiftAt r j)) (fun i _ => 31 - (intOf i).toNat)
          case atStart => exact ⟨0, by omega, rfl, by rw [shift_zero]; exact HS.out.drewN _⟩
          case round =>
            obtain ⟨j, hj, rfl, hst⟩ := hrel
            by_cases hj31 : j < 31
            · have hc := hst.cell (j := j + 1) (by omega)
              have hcj := hst.cell (j := j) (by omega)
              rw [if_neg (by omega)] at hc hcj
              have hz := hst.reg.frozenAt j
              have HT := Lib.hid hst
              clear hst
              have hjj : (j : Int) + 1 < 32 := by omega
              go_wp2
              go_roundw
              case rel => exact ⟨j + 1, by omega, by go_num, by rw [← shift_succ]; exact HT.out.store j _⟩
              case measure => simp [intOf]; omega
            · obtain rfl : j = 31 := by omega
              have hc := hst.cell (j := 31) (by omega)
              rw [if_neg (by omega)] at hc
              have hz := hst.reg.frozenAt 31
              have hst2 := hst.store 31 false
              rw [shift_all hrl] at hst2
              have HT := Lib.hid hst2
              clear hst hst2
              cases out with
              | false =>
                go_wp2
                go_roundw
                case rel => exact ⟨k + 1, by omega, by go_num, by rw [HN.out, HOff.out HQ.out]; exact HT.out⟩
                case measure => simp [intOf]; omega
              | true =>
                go_wp2
                go_loopw [10] (fun i wx => ∃ j : Nat, j ≤ 32 ∧ i = .int .i64 j ∧ RegSt w wx B2 (.slice (some ad) (8 * len) c3) (8 * len) l (turnAt (r / 2) j)) (fun i _ => 32 - (intOf i).toNat)
                case atStart => exact ⟨0, by omega, rfl, by rw [turn_zero]; exact HT.out⟩
                case round =>
                  clear HT
                  obtain ⟨j, hj, rfl, hst⟩ := hrel
                  by_cases hj32 : j < 32
                  · have hc := hst.cell (j := j) (by omega)
                    rw [if_neg (by omega)] at hc
                    have hcp := hst.polyCell (j := 31 - j) (by omega)
                    have hz := hst.reg.frozenAt j
                    have HT := Lib.hid hst
                    have HU := Lib.hid (turn_succ (r / 2) j hj32)
                    generalize (r / 2).testBit j = t1 at *
                    generalize polyL.getD (31 - j) false = t2 at *
                    clear hst
                    go_wp2
                    go_region
                    go_wp2
                    go_roundw
                    case rel => exact ⟨j + 1, by omega, by go_num, by rw [← HU.out]; exact HT.out.drew.store j _⟩
                    case measure => simp [intOf]; omega
                  · obtain rfl : j = 32 := by omega
                    rw [turn_all] at hst
                    have HT := Lib.hid hst
                    clear hst
                    go_wp2
                    go_roundw
                    case rel => exact ⟨k + 1, by omega, by go_num, by rw [HN.out, HOn.out HQ.out]; exact HT.out⟩
                    case measure => simp [intOf]; omega
        · obtain rfl : k = 8 * len := by omega
          rw [List.take_of_length_le (by rw [HLen.out]; exact Nat.le_refl _)] at hst hrl
          have HR := Lib.hid (show inv (bitrun full l) = res from HRun.out.symm)
          generalize bitrun full l = r at *
          have HS := Lib.hid hst
          have hbl := hst.below
          have hil := inv_lt hrl
          clear hst
          go_wp2
          go_loop [11, 12] (fun t i => ∃ m : Nat, m ≤ 32 ∧ i = .int .i64 ((m : Int) - 1) ∧ t = .int .u32 ((inv r / 2 ^ m : Nat) : Int)) (fun _ i => (intOf i + 1).toNat)
          case atStart => exact ⟨32, by omega, rfl, by rw [Nat.div_eq_of_lt (show inv r < 2 ^ 32 from hil)]; rfl⟩
          case round =>
            obtain ⟨m, hm, rfl, rfl⟩ := hrel
            rcases m with _ | m
            · have hR := HR.out
              simp only [Nat.pow_zero, Nat.div_one]
              rw [hR]
              clear hR
              go_wp2
              go_ret
              exact ⟨rfl, hbl⟩
            · have hc := HS.out.cell (j := m) (by omega)
              have HI := Lib.hid (inv_shift r m hrl (by omega))
              have hb1 : inv r / 2 ^ m ≤ inv r := Nat.div_le_self _ _
              have hb2 : 2 * (inv r / 2 ^ (m + 1)) ≤ inv r / 2 ^ m := by rw [inv_shift r m hrl (by omega)]; omega
              have hx1 : 2 * (inv r / 2 ^ (m + 1)) + (!r.testBit m).toNat < 4294967296 := by rw [← inv_shift r m hrl (by omega)]; omega
              rw [show (((m + 1 : Nat) : Int) - 1) = (m : Int) from by omega]
              have hx2 : 2 * (inv r / 2 ^ (m + 1)) < 4294967296 := by omega
              clear hb1 hb2
              generalize inv r / 2 ^ (m + 1) = x at *
              cases ht : r.testBit m with
              | true =>
                rw [ht] at hc HI hx1
                go_wp2
                go_round
                case rel => exact ⟨m, by omega, rfl, by rw [HI.out]; simp; omega⟩
                case measure => simp [intOf]
              | false =>
                rw [ht] at hc HI hx1
                have hx3 : 2 * x + 1 < 4294967296 := hx1
                clear hx1
                go_wp2
                go_round
                case rel => exact ⟨m, by omega, rfl, by rw [HI.out]; simp; omega⟩
                case measure => simp [intOf]
end Go.Proofs.Ytoehflalpidhfaa

/-
  The walks of the laws CrcTears, CrcKeeps.
-/
import Derived.Test.YtapnjinkadinbaaCrcF
import Derived.Test.YtapnjinkadinbaaOpen
namespace Go.Proofs.Ytapnjinkadinbaa
open Go.RowKit Word Crc
set_option linter.unusedVariables false

/-- zs with the first i of ws laid from k on -/
def tear (zs ws : List Int) (k i : Nat) : List Int := zs.take k ++ (ws.take i ++ zs.drop (k + i))
theorem tear_zero (zs ws : List Int) (k : Nat) : tear zs ws k 0 = zs := by simp [tear]
theorem tear_succ (zs ws : List Int) (k i : Nat) (h : k + i < zs.length) (hi : i < ws.length) : (tear zs ws k i).set (k + i) (ws.getD i 0) = tear zs ws k (i + 1) := by
  unfold tear
  have e1 : (zs.take k).length = k := by simp; omega
  have e2 : (ws.take i).length = i := by simp; omega
  rw [List.set_append_right _ _ (by omega), List.set_append_right _ _ (by omega), e1, e2, show k + i - k - i = 0 by omega, List.drop_eq_getElem_cons h, List.set_cons_zero,
    List.take_succ_eq_append_getElem hi, List.append_assoc]
  simp [List.getD_eq_getElem?_getD, hi, Nat.add_assoc]
theorem tear_length (zs ws : List Int) (k i : Nat) (h : k + i ≤ zs.length) (hi : i ≤ ws.length) : (tear zs ws k i).length = zs.length := by
  simp [tear]; omega
theorem tear_octets {zs ws : List Int} (hz : octets zs) (hw : octets ws) (k i : Nat) : octets (tear zs ws k i) := by
  intro y hy
  unfold tear at hy
  rcases List.mem_append.1 hy with h | h
  · exact hz y (List.mem_of_mem_take h)
  · rcases List.mem_append.1 h with h | h
    · exact hw y (List.mem_of_mem_take h)
    · exact hz y (List.mem_of_mem_drop h)
theorem tear_sum (zs ws : List Int) (k : Nat) (hz : octets zs) (hw : octets ws) (h4 : ws.length = 4) (hk : k + 4 ≤ zs.length) :
    ((((Crc.sum zs : Nat) : Int) == ((Crc.sum (tear zs ws k 4) : Nat) : Int)) == (zs == tear zs ws k 4)) = true := by
  rw [beq_iff_eq, Bool.eq_iff_iff, beq_iff_eq, beq_iff_eq]
  constructor
  · intro h
    have h' : Crc.sum zs = Crc.sum (tear zs ws k 4) := by omega
    obtain ⟨a, b, c, d, e⟩ : ∃ a b c d, ws = [a, b, c, d] := by
      match ws, h4 with
      | [a, b, c, d], _ => exact ⟨a, b, c, d, rfl⟩
    subst e
    have hm : ((zs.drop k).take 4).length = 4 := by simp; omega
    obtain ⟨a', b', c', d', e⟩ : ∃ a b c d, (zs.drop k).take 4 = [a, b, c, d] := by
      match (zs.drop k).take 4, hm with
      | [a, b, c, d], _ => exact ⟨a, b, c, d, rfl⟩
    have hzs : zs = zs.take k ++ ([a', b', c', d'] ++ zs.drop (k + 4)) := by
      rw [← e, ← List.drop_drop, List.take_append_drop, List.take_append_drop]
    have ho : ∀ y ∈ [a', b', c', d'], 0 ≤ y ∧ y ≤ 255 := fun y hy => hz y (List.mem_of_mem_drop (List.mem_of_mem_take (by rw [e]; exact hy)))
    have hcut := sum_tear (xs := zs.take k) (ys := zs.drop (k + 4)) (fun y hy => hz y (List.mem_of_mem_take hy)) (fun y hy => hz y (List.mem_of_mem_drop hy))
      (ho a' (by simp)) (ho b' (by simp)) (ho c' (by simp)) (ho d' (by simp)) (hw a (by simp)) (hw b (by simp)) (hw c (by simp)) (hw d (by simp)) (by
        rw [← hzs]
        simpa [tear] using h')
    show zs = zs.take k ++ ([a, b, c, d].take 4 ++ zs.drop (k + 4))
    rw [show [a, b, c, d].take 4 = [a, b, c, d] from rfl, ← hcut, ← hzs]
  · intro h
    rw [← h]

set_option maxRecDepth 100000 in
theorem law_tears (A : Option Addr) (len cap : Nat) (zs ws : List Int) (at_ : Int) (w : World) (hlen : zs.length = len) (hl : len ≤ maxLen) (hb : octets zs) (hr : Rd w w.heap.size A (bs zs))
    (hw : octets ws) (h4 : ws.length = 4) (ha : 0 ≤ at_ ∧ at_ ≤ 65535) :
    Calls Try.prog 6 #[.slice A len cap, .int .u16 at_, .agg (bs ws).toArray] w fun e w' => e = .returned (.bool true) ∧ Below w.heap.size w w' := by
  have HL := Lib.hid hl
  unfold maxLen at hl
  have ha0 := ha.1
  have ha1 := ha.2
  clear ha
  obtain ⟨x0, x1, x2, x3, e⟩ : ∃ a b c d, ws = [a, b, c, d] := by
    match ws, h4 with
    | [a, b, c, d], _ => exact ⟨a, b, c, d, rfl⟩
  subst e
  show Calls _ _ #[_, _, .agg #[.int .u8 x0, .int .u8 x1, .int .u8 x2, .int .u8 x3]] _ _
  have hws : Rd (w.alloc (.cells #[.int .u8 x0, .int .u8 x1, .int .u8 x2, .int .u8 x3] 31)) (w.alloc (.cells #[.int .u8 x0, .int .u8 x1, .int .u8 x2, .int .u8 x3] 31)).heap.size (some ⟨w.heap.size, 0, none⟩) (bs [x0, x1, x2, x3]) := rd_new w (bs [x0, x1, x2, x3]) _ _
  have hr0 : Rd (w.alloc (.cells #[.int .u8 x0, .int .u8 x1, .int .u8 x2, .int .u8 x3] 31)) (w.alloc (.cells #[.int .u8 x0, .int .u8 x1, .int .u8 x2, .int .u8 x3] 31)).heap.size A (bs zs) := (hr.alloc (Nat.le_refl _) _).more (by simp)
  have hb0 : Below w.heap.size w (w.alloc (.cells #[.int .u8 x0, .int .u8 x1, .int .u8 x2, .int .u8 x3] 31)) := (Below.refl _ _).alloc (Nat.le_refl _) _
  by_cases hsmall : len < 4
  · have hd : (len : Int) < 4 := by omega
    go_enter Try.func6, Try.ntmps6
    go_wp2_with fail
    refine (awake2_any _).mono ?_
    rintro e w1 ⟨rfl, hb1⟩
    go_wp2_with fail
    refine (awake2_any _).mono ?_
    rintro e w2 ⟨rfl, hb2⟩
    go_wp2
    go_ret
    exact ⟨rfl, bthen (bthen hb0 hb1) hb2⟩
  · have hd : ¬ (len : Int) < 4 := by omega
    by_cases hbig : 500 < len
    · have hd' : (500 : Int) < len := by omega
      go_enter Try.func6, Try.ntmps6
      go_wp2_with fail
      refine (awake2_any _).mono ?_
      rintro e w1 ⟨rfl, hb1⟩
      go_wp2_with fail
      refine (awake2_any _).mono ?_
      rintro e w2 ⟨rfl, hb2⟩
      go_wp2
      go_ret
      exact ⟨rfl, bthen (bthen hb0 hb1) hb2⟩
    · have hd' : ¬ (500 : Int) < len := by omega
      obtain ⟨n, rfl⟩ : ∃ n, len = n + 4 := ⟨len - 4, by omega⟩
      obtain ⟨k, hk, hkn⟩ : ∃ k : Nat, at_ % ((n : Int) + 4 - 3) = k ∧ k ≤ n := by
        rw [show (n : Int) + 4 - 3 = n + 1 by omega]
        have h1 := Int.emod_nonneg at_ (show (n : Int) + 1 ≠ 0 by omega)
        have h2 := Int.emod_lt_of_pos at_ (show (0 : Int) < (n : Int) + 1 by omega)
        exact ⟨(at_ % ((n : Int) + 1)).toNat, by omega, by omega⟩
      have HE := Lib.hid hlen
      have HS := Lib.hid (bs_length zs)
      have HW := Lib.hid hw
      have HT := Lib.hid (tear_sum zs [x0, x1, x2, x3] k hb hw h4 (by omega))
      clear hlen hr hw h4
      go_enter Try.func6, Try.ntmps6
      go_wp2_with fail
      generalize w.alloc _ = w0 at hws hr0 hb0 ⊢
      refine (awake2_any _).mono ?_
      rintro e w1 ⟨rfl, hb1⟩
      have hws1 := (hws.below hb1).more hb1.size
      have hr1 := (hr0.below hb1).more hb1.size
      have hbb := bthen hb0 hb1
      clear hws hr0 hb0 hb1
      go_wp2_with (at_builtin; refine wpList_append_copy _ rfl _ _ _ rfl 5 _ 1 1 elem8 rfl A (n + 4) cap rfl (bs zs) (by rw [HS.out, HE.out]; omega) hr1 (bs_one zs) HL.out (by omega) ?_; intro A2 c2 w2 hown hb2)
      obtain ⟨g, rfl, hgb, hgl⟩ := own_at hown (by omega)
      clear hk
      go_loopw [9] (fun i wr => ∃ j : Nat, j ≤ 4 ∧ i = .int .i64 j ∧ wr.ownsRow w1.heap.size 5 1 (.slice (some ⟨g, 0, none⟩) (n + 4) c2) (n + 4) (bs (tear zs [x0, x1, x2, x3] k j)) ∧ Below w1.heap.size w1 wr) (fun i _ => 4 - (intOf i).toNat)
      case atStart => exact ⟨0, by omega, rfl, by rw [tear_zero]; exact hown, hb2⟩
      case round =>
        clear hown hb2
        obtain ⟨j, hj, rfl, hown, hb2⟩ := hrel
        have hlt := tear_length zs [x0, x1, x2, x3] k j (by rw [HE.out]; omega) (by simp; omega)
        rw [HE.out] at hlt
        by_cases hj4 : j < 4
        · have hc := (hown.cellAt (k + j) (by omega)).trans (bs_get (by rw [hlt]; omega))
          generalize (tear zs [x0, x1, x2, x3] k j).getD (k + j) 0 = c0 at hc
          have hcw := (hws1.below hb2).cell0 (bs_get (k := j) (by simp; omega))
          have HX := Lib.hid (tear_succ zs [x0, x1, x2, x3] k j (by rw [HE.out]; omega) (by simp; omega))
          have hz := hown.frozenAt (k + j)
          generalize [x0, x1, x2, x3].getD j 0 = x at hcw HX
          have HO := Lib.hid hown
          clear hown hlt
          go_wp2
          go_roundw
          case rel =>
            have h1 := HO.out.stored (k + j) (.int .u8 x)
            refine ⟨j + 1, by omega, by go_num, ?_, below_stored hb2 h1.2 hb2.size hgb⟩
            rw [← HX.out, bs_set]
            exact h1.1
          case measure => simp [intOf]; omega
        · obtain rfl : j = 4 := by omega
          have hr2 := (hr1.below hb2)
          have hto := tear_octets hb HW.out k 4
          have HTL := Lib.hid hlt
          clear hlt
          generalize tear zs [x0, x1, x2, x3] k 4 = ts at *
          go_wp2_with fail
          refine (sum_any A (n + 4) cap zs wr HL.out HE.out hb _ hr2).mono ?_
          rintro e w4 ⟨rfl, rfl⟩
          go_wp2_with fail
          refine (sum_any (some ⟨g, 0, none⟩) (n + 4) c2 ts wr HL.out HTL.out hto _ (Rd.own hown)).mono ?_
          rintro e w4 ⟨rfl, rfl⟩
          go_wp2_with fail
          refine (same_any A (some ⟨g, 0, none⟩) (n + 4) cap (n + 4) c2 wr HL.out HL.out zs ts HE.out HTL.out wr.heap.size (hr2.more hb2.size) (Rd.own hown)).mono ?_
          rintro e w4 ⟨rfl, q, rfl⟩
          go_wp2
          go_ret
          exact ⟨ret_bool HT.out.symm, bthen hbb (below_draws hb2 q)⟩

theorem open_four {H : Type} {enc : TypeId × Value → H} {w : World} {base b0 : Nat} {r : Reach} {sp : Nat → Bool} {held : Bool} {v : Value} {d : DataW H} {ps : List MemPlace}
    (hu : Value.okWide Try.prog w r b0 31 v) (h : DataW.Trod enc Try.prog w base sp held 31 v d ps) : ∃ ws : List Int, v = .agg (bs ws).toArray ∧ ws.length = 4 ∧ octets ws := by
  obtain ⟨cs, rfl, hs⟩ := has_agg (s := .rep 4 1 (.int .u8)) 3 (by kernel_rfl) h hu (.inr ⟨_, _, Try.underlying31⟩)
  obtain ⟨ws, h1, rfl, h3⟩ := has_ints hs
  exact ⟨ws, rfl, h1, wf_u8 h3⟩
end Go.Proofs.Ytapnjinkadinbaa

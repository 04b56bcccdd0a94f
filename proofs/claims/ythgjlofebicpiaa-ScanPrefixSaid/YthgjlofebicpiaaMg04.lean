/-
  CrcF CrcI CrcK
-/
import Derived.Test.YthgjlofebicpiaaMg03
import Derived.Lib.SlBytesConst
/-
  What the document's Seal for package crc does; 'awake' answers true.
-/
namespace Go.Proofs.Ythgjlofebicpiaa
open Go.RowKit Word Crc
set_option linter.unusedVariables false

set_option maxHeartbeats 400000 in
theorem rseal_any (A : Option Addr) (len cap : Nat) (zs : List Int) (w : World) (hl : len ≤ 65536) (hlen : zs.length = len) (hb : octets zs) (hr : Rd w w.heap.size A (bs zs)) :
    Calls Try.prog 42 #[.slice A len cap] w fun e w' => ∃ A' c', e = .returned (.slice A' (len + 4) c') ∧
      w'.ownsRow w.heap.size 5 1 (.slice A' (len + 4) c') (len + 4) (bs (sealed zs)) ∧ Below w.heap.size w w' := by
  have HB := Lib.hid (show (bs zs).length = len by rw [bs_length, hlen])
  have HSum := Lib.hid fun w hr => rsum_any A len cap zs w hl hlen hb hr
  have HS := Lib.hid (show sealed zs = zs ++ le 4 (Crc.sum zs : Nat) from rfl)
  have hsl := sum_lt hb
  generalize sealed zs = res at *
  generalize Crc.sum zs = sm at *
  clear hlen
  go_enter Try.func42, Try.ntmps42
  go_wp2_with (first
    | (at_builtin; refine wpList_append_rd _ rfl _ _ _ rfl w.heap.size 5 _ 1 1 elem8 (.slice none 0 0) 0 [] rfl (World.ownsRow_nil _ _ _ _) w.heap.size A len cap (bs zs) rfl (by rw [HB.out]; omega) hr (bs_one zs) (by unfold maxLen; omega) (by omega) (Nat.le_refl _) ?_; intro v1 w1 hown1 hg1 hat1)
    | fail)
  rw [Nat.zero_add, List.nil_append] at hown1
  have hb1 : Below w.heap.size w w1 := (Below.refl _ _).grown hg1 (Nat.le_refl _) (fun k hk => by cases hk)
  clear hg1 hat1
  go_wp2_with (go_at_call 65; refine (HSum.out _ ((hr.below hb1).more hb1.size)).mono ?_; rintro e w2 ⟨rfl, hb2⟩)
  have hb3 : Below w.heap.size w w2 := hb1.trans (hb2.mono hb1.size)
  have hown2 := own_below hown1 hb2
  clear hown1 HSum
  go_loopw [3, 4, 5] (fun o s i wr => ∃ k : Nat, k ≤ 4 ∧ i = .int .i64 k ∧ s = .int .u32 ((sm : Int) / 2 ^ (8 * k)) ∧ wr.ownsRow w.heap.size 5 1 o (len + k) (bs (zs ++ le k sm)) ∧ Below w.heap.size w wr) (fun _ _ i _ => 4 - (intOf i).toNat)
  case atStart => exact ⟨0, by omega, rfl, by simp, by simpa [le] using hown2, hb3⟩
  case round =>
    clear hown2 hb3 hb2 hb1
    obtain ⟨k, hk, rfl, rfl, hown, hbl⟩ := hrel
    by_cases hlt : k < 4
    · have HP := Lib.hid (show bs (zs ++ le (k + 1) sm) = bs (zs ++ le k sm) ++ [.int .u8 ((sm : Int) / 2 ^ (8 * k) % 256)] by
        rw [le_snoc, ← List.append_assoc, bs_append _ [_]]; rfl)
      have HN := Lib.hid (show (sm : Int) / 2 ^ (8 * (k + 1)) = (sm : Int) / 2 ^ (8 * k) / 256 by
        rw [pow8_succ, Int.mul_comm, Int.ediv_ediv_of_nonneg (Int.le_of_lt (pow8_pos _))])
      have hy : 0 ≤ (sm : Int) / 2 ^ (8 * k) := Int.ediv_nonneg (by omega) (Int.le_of_lt (pow8_pos _))
      have hy2 : (sm : Int) / 2 ^ (8 * k) < 4294967296 := Int.lt_of_le_of_lt (Int.ediv_le_self _ (by omega)) (by omega)
      generalize (sm : Int) / 2 ^ (8 * k) = y at *
      go_wp2_with (at_builtin; go_loud (refine wpList_append_one _ rfl _ _ _ rfl w.heap.size 5 _ 1 elem8 u3 (len + k) _ rfl _ rfl hown rfl (by simp only [maxLen]; omega) (by omega) hbl.size ?_); intro v1 w1 hown1 hg1)
      go_roundw
      case rel => exact ⟨k + 1, by omega, by go_num, by rw [HN.out], by rw [HP.out]; exact hown1, hbl.grown hg1 hbl.size fun g hg => (hown.lt g hg).1⟩
      case measure => simp [intOf]; omega
    · obtain rfl : k = 4 := by omega
      rw [← HS.out] at hown
      obtain ⟨A', c', hv⟩ := own_slice hown
      rw [hv] at hown ⊢
      clear hv
      go_wp2
      go_ret
      exact ⟨A', c', rfl, hown, hbl⟩

theorem conv8 (w : World) (C : Array Value) (n c : Nat) : (convert 41 41 (.slice (some ⟨w.heap.size, 0, none⟩) n c)).run Try.prog (w.alloc (.cells C 5)) = .ok (.slice (some ⟨w.heap.size, 0, none⟩) n c) (w.alloc (.cells C 5 (C.size, C.size + 1))) :=
  Lib.run_convert_bytes_const w _ _ _ n c Try.underlying41 Try.underlying5
theorem lit_own {w : World} (zs : List Int) (n : Nat) (hn : zs.length = n) (hm : n ≤ 65536) : (w.alloc (.cells (bs zs).toArray 5)).ownsRow w.heap.size 5 1 (.slice (some ⟨w.heap.size, 0, none⟩) n n) n (bs zs) := by
  have h := World.ownsRow_lit (base := w.heap.size) (e := 5) (size := 1) w (bs zs).toArray n (Nat.le_refl _) (by unfold maxLen; omega) (by simp [bs_length, hn])
  exact h
theorem sum_digits : Crc.sum [49, 50, 51, 52, 53, 54, 55, 56, 57] = 3421780262 := by decide +kernel
theorem right_x : rightB (sealed [120]) = true := by decide +kernel
theorem right_3 : rightB [1, 2, 3] = false := by decide +kernel

end Go.Proofs.Ythgjlofebicpiaa

/-
  The walk of the law CrcKeeps.
-/
namespace Go.Proofs.Ythgjlofebicpiaa
open Go.RowKit Word Crc
set_option linter.unusedVariables false

theorem right_parts (xs ys : List Int) (h4 : ys.length = 4) : rightB (xs ++ ys) = (val ys == ((Crc.sum xs : Nat) : Int)) := by
  unfold rightB
  have e : (xs ++ ys).length - 4 = xs.length := by simp [h4]
  rw [e, List.drop_left, List.take_left]
  simp [h4]
theorem val_four {xs : List Int} (hb : octets xs) : val (le 4 ((Crc.sum xs : Nat) : Int)) = ((Crc.sum xs : Nat) : Int) := by
  have hs := sum_lt hb
  rw [val_le]
  exact Int.emod_eq_of_lt (by omega) (by simp; omega)
theorem right_sealed {xs : List Int} (hb : octets xs) : rightB (sealed xs) = true := by
  unfold sealed
  rw [right_parts _ _ (le_length _ _), val_four hb]
  exact beq_self_eq_true _
theorem right_turned {xs : List Int} (hb : octets xs) {k : Nat} (hk : k < xs.length + 4) {x : Int} (hx : 0 ≤ x ∧ x ≤ 255) (hne : x ≠ (sealed xs).getD k 0) : rightB ((sealed xs).set k x) = false := by
  unfold sealed at hne ⊢
  by_cases h : k < xs.length
  · rw [List.set_append_left _ _ h, right_parts _ _ (le_length _ _), val_four hb, beq_eq_false_iff_ne]
    intro he
    have he : Crc.sum xs = Crc.sum (xs.set k x) := by omega
    have e1 : xs = xs.take k ++ xs[k] :: xs.drop (k + 1) := by rw [← List.drop_eq_getElem_cons h, List.take_append_drop]
    have e2 : xs.set k x = xs.take k ++ x :: xs.drop (k + 1) := List.set_eq_take_append_cons_drop .. |>.trans (by rw [if_pos h])
    rw [e2] at he
    rw [show Crc.sum xs = Crc.sum (xs.take k ++ xs[k] :: xs.drop (k + 1)) from by rw [← e1]] at he
    have h1 := sum_one (fun y hy => hb y (List.mem_of_mem_take hy)) (fun y hy => hb y (List.mem_of_mem_drop hy)) (hb _ (List.getElem_mem h)) hx he
    apply hne
    rw [List.getD_eq_getElem?_getD, List.getElem?_append_left h, List.getElem?_eq_getElem h]
    exact h1.symm
  · have hl := le_length 4 ((Crc.sum xs : Nat) : Int)
    rw [List.set_append_right _ _ (by omega), right_parts _ _ (by simp [hl]), beq_eq_false_iff_ne]
    intro he
    apply hne
    have hj : k - xs.length < 4 := by omega
    have ho : octets ((le 4 ((Crc.sum xs : Nat) : Int)).set (k - xs.length) x) := by
      intro y hy
      rcases List.mem_or_eq_of_mem_set hy with h | h
      · exact le_bytes _ _ y h
      · rw [h]; exact hx
    have e := le_val _ ho
    rw [List.length_set, hl, he] at e
    rw [List.getD_eq_getElem?_getD, List.getElem?_append_right (by omega), e, List.getElem?_set_self (by rw [hl]; exact hj)]
    rfl
theorem sealed_take (xs : List Int) (n : Nat) (h : xs.length = n) : (sealed xs).take n = xs := by subst h; simp [sealed]

theorem right_xor {xs : List Int} (hb : octets xs) {k : Nat} (hk : k < xs.length + 4) {y : Int} (hy : 0 ≤ y ∧ y ≤ 255) :
    rightB ((sealed xs).set k (bits .xor .u8 ((sealed xs).getD k 0) y)) = (y == 0) := by
  have hc := octets_getD (sealed_octets hb) k
  have hX := u8_xor ((sealed xs).getD k 0) y hc.1 (by omega) hy.1 (by omega)
  by_cases h0 : y = 0
  · subst h0
    have e : bits .xor .u8 ((sealed xs).getD k 0) 0 = (sealed xs).getD k 0 := by rw [hX, show (0 : Int).toNat = 0 from rfl, Nat.xor_zero]; omega
    rw [e]
    have e2 : (sealed xs).set k ((sealed xs).getD k 0) = sealed xs := by
      apply List.ext_getElem?
      intro i
      rw [List.getElem?_set]
      by_cases h : k = i
      · subst h
        rw [if_pos rfl, if_pos (by rw [sealed_length]; exact hk), List.getD_eq_getElem?_getD, List.getElem?_eq_getElem (by rw [sealed_length]; exact hk)]
        rfl
      · rw [if_neg h]
    rw [e2, right_sealed hb]
    rfl
  · rw [show (y == 0) = false from by simp [h0]]
    have hlt := Nat.xor_lt_two_pow (n := 8) (show ((sealed xs).getD k 0).toNat < 2 ^ 8 by omega) (show y.toNat < 2 ^ 8 by omega)
    refine right_turned hb hk ?_ ?_
    · rw [hX]; omega
    · rw [hX]
      intro he
      have h1 : ((sealed xs).getD k 0).toNat ^^^ y.toNat = ((sealed xs).getD k 0).toNat := by omega
      have h2 := congrArg (((sealed xs).getD k 0).toNat ^^^ ·) h1
      simp only [← Nat.xor_assoc, Nat.xor_self, Nat.zero_xor] at h2
      omega

end Go.Proofs.Ythgjlofebicpiaa

/-
  The walks of the laws CrcSeals, CrcTears.
-/
namespace Go.Proofs.Ythgjlofebicpiaa
open Go.RowKit Word Crc
set_option linter.unusedVariables false

theorem sealed_eq (xs ys : List Int) (hx : octets xs) (hy : octets ys) (h4 : ys.length = 4) : (sealed xs == xs ++ ys) = (val ys == ((Crc.sum xs : Nat) : Int)) := by
  have h1 : (sealed xs == xs ++ ys) = (le 4 ((Crc.sum xs : Nat) : Int) == ys) := by
    rw [Bool.eq_iff_iff, beq_iff_eq, beq_iff_eq]
    exact List.append_cancel_left_eq .. |>.to_iff
  rw [h1, Bool.eq_iff_iff, beq_iff_eq, beq_iff_eq]
  have hs := sum_lt hx
  constructor
  · intro h
    rw [← h, val_le]
    exact Int.emod_eq_of_lt (by omega) (by simp; omega)
  · intro h
    rw [← h, ← h4]
    exact le_val ys hy
theorem rightB_eq (zs : List Int) (hb : octets zs) (h4 : 4 ≤ zs.length) : rightB zs = (sealed (zs.take (zs.length - 4)) == zs) := by
  have h := sealed_eq (zs.take (zs.length - 4)) (zs.drop (zs.length - 4)) (fun y hy => hb y (List.mem_of_mem_take hy)) (fun y hy => hb y (List.mem_of_mem_drop hy)) (by simp; omega)
  rw [List.take_append_drop] at h
  rw [h]
  simp [rightB, h4]

end Go.Proofs.Ythgjlofebicpiaa

/-
  ScP GeomM GeomC
-/
import Derived.Test.YthgjlofebicpiaaMg14
import Derived.Lib.Hide
import Derived.Test.YthgjlofebicpiaaProg
import Derived.Test.YthgjlofebicpiaaMg00
import Derived.WalkSpells
import Derived.WalkLawsBesides
import Derived.OpenShut
import Derived.Deep.QuietTactic
import Derived.BigQuiet
import Derived.IntWalk
/-
  The document's answer for layer 6: Lay, of whatever record: also of one that isn't right.
-/
namespace Go.Proofs.Ythgjlofebicpiaa
open Go.RowKit Word Crc Rec
set_option linter.unusedVariables false

namespace Rec
/-- a number's bytes, one by one, as Go divides: of whatever number -/
def qt : Nat → Int → Int
  | 0, N => N
  | k + 1, N => (qt k N).tdiv 256
def lo : Nat → Int → List Int
  | 0, _ => []
  | k + 1, N => lo k N ++ [((qt k N).tmod 256) % 256]
theorem lo_length : ∀ (k : Nat) (N : Int), (lo k N).length = k
  | 0, _ => rfl
  | k + 1, N => by simp [lo, lo_length k N]
theorem u8_octet (x : Int) : 0 ≤ x % 256 ∧ x % 256 ≤ 255 := by omega
theorem tdiv_mod (x : Int) : x.tdiv 256 = (if 0 ≤ x then x / 256 else -(-x / 256)) ∧ x.tmod 256 = if 0 ≤ x then x % 256 else -(-x % 256) := by
  by_cases h : 0 ≤ x
  · rw [if_pos h, if_pos h]
    exact ⟨Int.tdiv_eq_ediv_of_nonneg h, Int.tmod_eq_emod_of_nonneg h⟩
  · rw [if_neg h, if_neg h]
    have e : x = -(-x) := by omega
    have hn : 0 ≤ -x := by omega
    constructor
    · conv => lhs; rw [e]
      rw [Int.neg_tdiv, Int.tdiv_eq_ediv_of_nonneg hn]
    · conv => lhs; rw [e]
      rw [Int.neg_tmod, Int.tmod_eq_emod_of_nonneg hn]
theorem lo_octets : ∀ (k : Nat) (N : Int), octets (lo k N)
  | 0, _ => fun z hz => by simp [lo] at hz
  | k + 1, N => octets_append (lo_octets k N) fun z hz => by
      obtain rfl := List.mem_singleton.1 hz
      exact u8_octet _
/-- its numbers are ints -/
def I64 (x : Int) : Prop := -9223372036854775808 ≤ x ∧ x ≤ 9223372036854775807
def R64 (r : Rc) : Prop := I64 r.kind ∧ I64 r.epoch ∧ I64 r.seq ∧ I64 r.block ∧ I64 r.count
theorem qt_in {N : Int} (h : I64 N) : ∀ k, I64 (qt k N)
  | 0 => h
  | k + 1 => by
    have ih := qt_in h k
    unfold I64 at *
    show _ ≤ (qt k N).tdiv 256 ∧ (qt k N).tdiv 256 ≤ _
    generalize qt k N = x at ih
    rw [(tdiv_mod x).1]
    split <;> omega
def frontG (r : Rc) : List Int := [r.kind % 256] ++ (lo 8 r.epoch ++ (lo 8 r.seq ++ (lo 4 r.block ++ (lo 4 r.count ++ (r.data ++ [0, 0, 0])))))
def layG (r : Rc) : List Int := sealed (frontG r)
theorem frontG_length (r : Rc) (h : r.data.length = 32) : (frontG r).length = 60 := by simp [frontG, lo_length, h]
theorem layG_length (r : Rc) (h : r.data.length = 32) : (layG r).length = 64 := by unfold layG; rw [sealed_length, frontG_length r h]
theorem frontG_octets {r : Rc} (h : octets r.data) : octets (frontG r) := by
  unfold frontG
  refine octets_append ?_ (octets_append (lo_octets _ _) (octets_append (lo_octets _ _) (octets_append (lo_octets _ _) (octets_append (lo_octets _ _) (octets_append h ?_)))))
  · intro z hz
    obtain rfl := List.mem_singleton.1 hz
    exact u8_octet _
  · intro z hz
    simp at hz
    omega
theorem layG_octets {r : Rc} (h : octets r.data) : octets (layG r) := sealed_octets (frontG_octets h)
/-- the sector of whatever record: of a right one as the document has it -/
def layA (r : Rc) : List Int := if Ok r then layL r else layG r
theorem layA_ok {r : Rc} (h : Ok r) : layA r = layL r := if_pos h
theorem layA_length {r : Rc} (h : In r) : (layA r).length = 64 := by unfold layA; split; exact layL_length r h.1; exact layG_length r h.1
theorem layA_octets {r : Rc} (h : In r) : octets (layA r) := by
  unfold layA
  split
  · rename_i hk; exact layL_octets hk h.2
  · exact layG_octets h.2
end Rec

set_option maxRecDepth 100000 in
set_option maxHeartbeats 2000000 in
theorem rlowG_any (N : Int) (c : Nat) (w : World) (h0 : I64 N) (hc : c ≤ 8) :
    Calls Try.prog 41 #[.int .i64 N, .int .i64 c] w fun e w' => ∃ V, e = .returned V ∧ w'.ownsRow w.heap.size 5 1 V c (bs (lo c N)) ∧ Below w.heap.size w w' := by
  have HQ := Lib.hid fun k => qt_in h0 k
  clear h0
  go_enter Try.func41, Try.ntmps41
  go_wp2_with fail
  go_loopw [0, 5, 6] (fun n o i wr => ∃ k : Nat, k ≤ c ∧ i = .int .i64 k ∧ n = .int .i64 (qt k N) ∧ wr.ownsRow w.heap.size 5 1 o k (bs (lo k N)) ∧ Below w.heap.size w wr) (fun _ _ i _ => c - (intOf i).toNat)
  case atStart => exact ⟨0, by omega, rfl, rfl, World.ownsRow_nil _ _ _ _, Below.refl _ _⟩
  case round =>
    obtain ⟨k, hk, rfl, rfl, hown, hbl⟩ := hrel
    by_cases hlt : k < c
    · have HP := Lib.hid (show bs (lo (k + 1) N) = bs (lo k N) ++ [.int .u8 (((qt k N).tmod 256) % 256)] by
        show bs (lo k N ++ [_]) = _
        rw [bs_append _ [_]]; rfl)
      have HN := Lib.hid (show qt (k + 1) N = (qt k N).tdiv 256 from rfl)
      have hy := HQ.out k
      unfold I64 at hy
      generalize qt k N = y at *
      have hw1 : IntKind.i64.wrap (y.tmod 256) = y.tmod 256 := IntWalk.i64_in _ (by rw [(tdiv_mod y).2]; split <;> omega)
      have hw2 : IntKind.i64.wrap (y.tdiv 256) = y.tdiv 256 := IntWalk.i64_in _ (by rw [(tdiv_mod y).1]; split <;> omega)
      have HY := Lib.hid hy
      clear hy
      go_wp2_with (at_builtin; go_loud (refine wpList_append_one _ rfl _ _ _ rfl w.heap.size 5 _ 1 elem8 u5 k _ rfl (.int .u8 (y.tmod 256 % 256)) rfl hown rfl (by simp only [maxLen]; omega) (by omega) hbl.size ?_); intro v1 w1 hown1 hg1)
      go_roundw
      case rel => exact ⟨k + 1, by omega, by go_num, by rw [HN.out], by rw [HP.out]; exact hown1, hbl.grown hg1 hbl.size fun g hg => (hown.lt g hg).1⟩
      case measure => simp [intOf]; omega
    · obtain rfl : c = k := by omega
      go_wp2
      go_ret
      exact ⟨_, rfl, hown, hbl⟩
set_option maxRecDepth 100000 in
set_option maxHeartbeats 4000000 in
theorem rlayG_any (r : Rc) (w : World) (hk : R64 r) (hi : In r) :
    Calls Try.prog 23 #[.agg (rcs r).toArray] w fun e w' => e = .returned (.agg (bs (layG r)).toArray) ∧ Below w.heap.size w w' := by
  obtain ⟨m, hm, hsz⟩ := big_size (P := Try.prog) (t := 62) (s := 64) (by kernel_rfl)
  have hm0 : ¬ m = 0 := by omega
  have HM := Lib.hid hm
  have HI := Lib.hid hi
  have HK := Lib.hid hk
  obtain ⟨kd, hkd⟩ : ∃ kd, r.kind % 256 = kd := ⟨_, rfl⟩
  have HKD := Lib.hid hkd
  clear hm hi hk
  go_enter Try.func23, Try.ntmps23
  go_wp2_with (first
    | ((with_reducible refine wpList_rc_box (o := ⟨some 1, .box _ _, _, _, _, _⟩) rfl _ rfl r rfl ?_); intro w1 x0 hB1 hs1)
    | ((with_reducible refine wpList_pg_alloc (o := ⟨some 2, .alloc _, _, _, _, _⟩) rfl rfl ?_); intro w2 x1 hB2 hs2; have L := LwSt.start x0 hB1 hs1 x1 hB2 hs2; rw [hs1]; clear hs1 hs2 x0 x1 hB1 hB2; have c0 := L.1.rc.1; have L' := L.on ((Below.refl _ _).alloc (Nat.le_refl _) (.cells (bs [kd]).toArray 5 (0, 0))); have c1 : (w2.alloc (.cells #[.int .u8 kd] 5)).cell? ⟨w.heap.size, 1, none⟩ = some (.int .i64 r.epoch) := L'.1.rc.2.1)
    | fail)
  have hown := own_base0 (lit_own (w := w2) [kd] 1 rfl (by decide)) L.2.2.2
  clear L c0
  change (w2.alloc (.cells #[.int .u8 kd] 5)).ownsRow _ _ _ _ _ _ at hown
  change LwSt w (w2.alloc (.cells #[.int .u8 kd] 5)) r at L'
  generalize w2.heap.size = b3 at *
  generalize w2.alloc _ = w3 at *
  rename LwSt w w3 r => L
  -- epoch
  refine (rlowG_any r.epoch 8 w3 HK.out.2.1 (by omega)).mono ?_
  rintro e w4 ⟨V, rfl, hlow, hb⟩
  obtain ⟨A, cc, hv⟩ := own_slice hlow
  rw [hv] at hlow ⊢
  clear hv
  have hown' := own_below hown hb
  have hr : Rd w4 w4.heap.size A (bs (lo 8 r.epoch)) := Rd.own hlow
  replace L := L.on hb
  have HB := L.2.2.2
  have HL := Lib.hid L
  clear hown hlow hb L c1
  rename w4.ownsRow _ _ _ _ _ _ => hown
  go_wp2_with (first
    | (at_builtin; go_loud (refine wpList_append_rd _ rfl _ _ _ rfl (w.heap.size + 2) 5 _ 1 1 elem8 (.slice (some ⟨b3, 0, none⟩) 1 1) 1 (bs ([kd])) rfl hown w4.heap.size A 8 cc (bs (lo 8 r.epoch)) rfl (by rw [bs_length, lo_length]) hr (bs_one _) (by unfold maxLen; omega) (by omega) HB ?_); intro v0 w5 hown0 hg0 _; have L := HL.out.grew ((Below.refl _ _).grown hg0 HB fun g hg => (hown.lt g hg).1); have c1 := L.1.rc.2.2.1)
    | fail)
  clear hg0 hown hr HL HB
  rename w5.ownsRow _ _ _ _ _ _ => hown
  rw [← bs_append] at hown
  -- seq
  refine (rlowG_any r.seq 8 w5 HK.out.2.2.1 (by omega)).mono ?_
  rintro e w6 ⟨V, rfl, hlow, hb⟩
  obtain ⟨A, cc, hv⟩ := own_slice hlow
  rw [hv] at hlow ⊢
  clear hv
  have hown' := own_below hown hb
  have hr : Rd w6 w6.heap.size A (bs (lo 8 r.seq)) := Rd.own hlow
  replace L := L.on hb
  have HB := L.2.2.2
  have HL := Lib.hid L
  clear hown hlow hb L c1
  rename w6.ownsRow _ _ _ _ _ _ => hown
  go_wp2_with (first
    | (at_builtin; go_loud (refine wpList_append_rd _ rfl _ _ _ rfl (w.heap.size + 2) 5 _ 1 1 elem8 v0 9 (bs ([kd] ++ lo 8 r.epoch)) rfl hown w6.heap.size A 8 cc (bs (lo 8 r.seq)) rfl (by rw [bs_length, lo_length]) hr (bs_one _) (by unfold maxLen; omega) (by omega) HB ?_); intro v1 w7 hown1 hg1 _; have L := HL.out.grew ((Below.refl _ _).grown hg1 HB fun g hg => (hown.lt g hg).1); have c1 := L.1.rc.2.2.2.1)
    | fail)
  clear hg1 hown hr HL HB
  rename w7.ownsRow _ _ _ _ _ _ => hown
  rw [← bs_append] at hown
  -- block
  refine (rlowG_any r.block 4 w7 HK.out.2.2.2.1 (by omega)).mono ?_
  rintro e w8 ⟨V, rfl, hlow, hb⟩
  obtain ⟨A, cc, hv⟩ := own_slice hlow
  rw [hv] at hlow ⊢
  clear hv
  have hown' := own_below hown hb
  have hr : Rd w8 w8.heap.size A (bs (lo 4 r.block)) := Rd.own hlow
  replace L := L.on hb
  have HB := L.2.2.2
  have HL := Lib.hid L
  clear hown hlow hb L c1
  rename w8.ownsRow _ _ _ _ _ _ => hown
  go_wp2_with (first
    | (at_builtin; go_loud (refine wpList_append_rd _ rfl _ _ _ rfl (w.heap.size + 2) 5 _ 1 1 elem8 v1 17 (bs ([kd] ++ lo 8 r.epoch ++ lo 8 r.seq)) rfl hown w8.heap.size A 4 cc (bs (lo 4 r.block)) rfl (by rw [bs_length, lo_length]) hr (bs_one _) (by unfold maxLen; omega) (by omega) HB ?_); intro v2 w9 hown2 hg2 _; have L := HL.out.grew ((Below.refl _ _).grown hg2 HB fun g hg => (hown.lt g hg).1); have c1 := L.1.rc.2.2.2.2)
    | fail)
  clear hg2 hown hr HL HB
  rename w9.ownsRow _ _ _ _ _ _ => hown
  rw [← bs_append] at hown
  -- count
  refine (rlowG_any r.count 4 w9 HK.out.2.2.2.2 (by omega)).mono ?_
  rintro e w10 ⟨V, rfl, hlow, hb⟩
  obtain ⟨A, cc, hv⟩ := own_slice hlow
  rw [hv] at hlow ⊢
  clear hv
  have hown' := own_below hown hb
  have hr : Rd w10 w10.heap.size A (bs (lo 4 r.count)) := Rd.own hlow
  replace L := L.on hb
  have HB := L.2.2.2
  have HL := Lib.hid L
  clear hown hlow hb L c1
  rename w10.ownsRow _ _ _ _ _ _ => hown
  go_wp2_with (first
    | (at_builtin; go_loud (refine wpList_append_rd _ rfl _ _ _ rfl (w.heap.size + 2) 5 _ 1 1 elem8 v2 21 (bs ([kd] ++ lo 8 r.epoch ++ lo 8 r.seq ++ lo 4 r.block)) rfl hown w10.heap.size A 4 cc (bs (lo 4 r.count)) rfl (by rw [bs_length, lo_length]) hr (bs_one _) (by unfold maxLen; omega) (by omega) HB ?_); intro v3 w11 hown3 hg3 _; have L := HL.out.grew ((Below.refl _ _).grown hg3 HB fun g hg => (hown.lt g hg).1))
    | fail)
  clear hg3 hown hr HL HB
  rename w11.ownsRow _ _ _ _ _ _ => hown
  rw [← bs_append] at hown
  have HF := Lib.hid (show frontG r = ([kd] ++ lo 8 r.epoch ++ lo 8 r.seq ++ lo 4 r.block ++ lo 4 r.count) ++ r.data ++ [0, 0, 0] by
    unfold frontG
    rw [← HKD.out]
    simp only [List.append_assoc])
  have HIn0 := Lib.hid (And.intro L hown)
  clear L hown
  generalize [kd] ++ lo 8 r.epoch ++ lo 8 r.seq ++ lo 4 r.block ++ lo 4 r.count = zs at *
  -- the data
  go_loopw [3, 4] (fun o i wr => ∃ k : Nat, k ≤ 32 ∧ i = .int .i64 k ∧ LwSt w wr r ∧ wr.ownsRow (w.heap.size + 2) 5 1 o (25 + k) (bs (zs ++ r.data.take k))) (fun _ i _ => 32 - (intOf i).toNat)
  case atStart => exact ⟨0, by omega, rfl, HIn0.out.1, by simpa using HIn0.out.2⟩
  case round =>
    clear HIn0
    obtain ⟨k, hk, rfl, L, hown⟩ := hrel
    have hsz := L.2.2.2
    by_cases hlt : k < 32
    · have c0 := (L.1.cell (5 + k)).trans ((rcs_data r k).trans (bs_get (by rw [HI.out.1]; exact hlt)))
      have HT := Lib.hid (show bs (zs ++ r.data.take (k + 1)) = bs (zs ++ r.data.take k) ++ [.int .u8 (r.data.getD k 0)] by
        rw [List.take_succ_eq_append_getElem (by rw [HI.out.1]; exact hlt), ← List.append_assoc, bs_append _ [_]]
        simp [bs, List.getD_eq_getElem?_getD, List.getElem?_eq_getElem (show k < r.data.length by rw [HI.out.1]; exact hlt)])
      have HL := Lib.hid L
      clear L
      generalize r.data.getD k 0 = x at c0 HT
      go_wp2_with (at_builtin; go_loud (refine wpList_append_one _ rfl _ _ _ rfl (w.heap.size + 2) 5 _ 1 elem8 u3 (25 + k) _ rfl _ rfl hown rfl (by simp only [maxLen]; omega) (by omega) hsz ?_); intro v13 w13 hown13 hg13)
      go_roundw
      case rel =>
        have hb13 : Below (w.heap.size + 2) wr w13 := (Below.refl _ _).grown hg13 hsz fun g hg => (hown.lt g hg).1
        exact ⟨k + 1, by omega, by go_num, HL.out.grew hb13, by rw [HT.out]; exact hown13⟩
      case measure => simp [intOf]; omega
    · obtain rfl : k = 32 := by omega
      rw [List.take_of_length_le (by rw [HI.out.1]; exact Nat.le_refl _)] at hown
      have HL := Lib.hid L
      clear L
      -- the noughts
      go_wp2_with (first
        | (at_builtin; go_loud (refine wpList_append_rd _ rfl _ _ _ rfl (w.heap.size + 2) 5 _ 1 1 elem8 u3 57 (bs (zs ++ r.data)) rfl (hown.alloc _) (wr.alloc (.cells (bs [0, 0, 0]).toArray 5)).heap.size (some ⟨wr.heap.size, 0, none⟩) 3 3 (bs [0, 0, 0]) rfl rfl (Rd.own (lit_own [0, 0, 0] 3 rfl (by decide))) (bs_one _) (by unfold maxLen; omega) (by omega) (by simp; omega) ?_); intro v14 w14 hown14 hg14 _)
        | fail)
      have hb14 : Below (w.heap.size + 2) wr w14 := ((Below.refl _ _).alloc hsz _).grown hg14 (by simp; omega) fun g hg => (hown.lt g hg).1
      have hown14 : w14.ownsRow (w.heap.size + 2) 5 1 v14 60 (bs (frontG r)) := by rw [HF.out, bs_append _ [0, 0, 0]]; exact hown14
      replace HL := Lib.hid (HL.out.grew hb14)
      clear hown hg14 hb14 hsz
      obtain ⟨A, c, hv⟩ := own_slice hown14
      rw [hv] at hown14 ⊢
      clear hv
      -- the sum
      refine (rseal_any A 60 c (frontG r) w14 (by decide) (frontG_length r HI.out.1) (frontG_octets HI.out.2) (Rd.own hown14)).mono ?_
      rintro e w15 ⟨A', c', rfl, hown15, hb15⟩
      have hown15 : w15.ownsRow w14.heap.size 5 1 (.slice A' 64 c') 64 (bs (layG r)) := hown15
      replace HL := Lib.hid (HL.out.on hb15)
      have HSL := Lib.hid (layG_length r HI.out.1)
      rw [show (60 : Nat) + 4 = 64 from rfl]
      obtain ⟨g, rfl, hgb, hgl⟩ := own_at hown15 (by omega)
      have HO := Lib.hid hown15
      clear hown14 hb15 hown15 hgb HF
      generalize hS : layG r = S at *
      have HS := Lib.hid hS
      clear hS
      go_wp2_with (first
        | ((with_reducible refine wpList_pg_alloc (o := ⟨some 5, .alloc _, _, _, _, _⟩) rfl rfl ?_); intro w16 x16 hB16 hs16)
        | fail)
      have HL16 := Lib.hid (And.intro (HL.out.on hB16) (And.intro x16 (And.intro (own_below HO.out hB16) (And.intro HL.out.2.2.2 (show w15.heap.size < w16.heap.size by omega)))))
      clear x16 hB16 hs16 HL HO
      generalize w15.heap.size = b5 at *
      obtain ⟨hL0, hx0, ho0, hb5, hb5s⟩ := HL16.out
      have hgb5 : g < b5 := hgl
      clear HL16
      have HG := Lib.hid (And.intro hb5 hgb5)
      have HX0 := Lib.hid (And.intro hL0 (And.intro hx0 ho0))
      clear hL0 hx0 ho0 hb5s hgl hb5 hgb5
      go_loopw [6] (fun i wr => ∃ n : Nat, n ≤ 64 ∧ i = .int .i64 n ∧ LwSt w wr r ∧ Box wr b5 62 (bs (mix S pg0 n)) ∧ wr.ownsRow w14.heap.size 5 1 (.slice (some ⟨g, 0, none⟩) 64 c') 64 (bs S)) (fun i _ => 64 - (intOf i).toNat)
      case atStart => exact ⟨0, by omega, rfl, HX0.out.1, by rw [mix_zero]; exact HX0.out.2.1, HX0.out.2.2⟩
      case round =>
        clear HX0
        obtain ⟨n, hn1, rfl, L, hx, hown⟩ := hrel
        by_cases hlt : n < 64
        · have hml : (mix S pg0 n).length = 64 := (mix_length (by rw [HSL.out]; rfl) hn1).trans rfl
          have c1 := (hown.cellAt n (by omega)).trans (bs_get (by rw [HSL.out]; exact hlt))
          have c0 := (hx.cell n).trans (bs_get (by rw [hml]; exact hlt))
          have f0 := hx.frozen n
          have HX := Lib.hid (mix_set (S := S) (p := pg0) (n := n) (by rw [HSL.out]; rfl) hlt)
          generalize S.getD n 0 = s at c1 HX
          generalize (mix S pg0 n).getD n 0 = s0 at c0
          have HH := Lib.hid (And.intro L (And.intro hx hown))
          clear hml L hx hown
          go_wp2
          go_roundw
          case rel =>
            obtain ⟨L, hx, hown⟩ := HH.out
            have e : ∀ x, x ≠ b5 → (wr.setCell ⟨b5, n, none⟩ (.int .u8 s)).heap[x]? = wr.heap[x]? := fun x hx => heap_setCell_other _ _ _ _ hx
            have hG := HG.out
            refine ⟨n + 1, by omega, by go_num, ⟨L.1.same (e _ (by omega)), L.2.1.same (e _ (by omega)), L.2.2.1.setCell (by show w.heap.size ≤ b5; omega) _, by have := L.2.2.2; simpa [World.setCell] using this⟩, ?_, ?_⟩
            · have := hx.set n (.int .u8 s)
              rw [← bs_set, HX.out] at this
              exact this
            · refine own_same hown fun g' hg' => e _ ?_
              injection hg' with hg'
              have : g = g' := hg'
              omega
          case measure => simp [intOf]; omega
        · obtain rfl : n = 64 := by omega
          rw [mix_all (S := S) (p := pg0) (n := 64) (by rw [HSL.out]; rfl) rfl] at hx
          have hld := big_load0 Try.prog b5 0 (bs S) m (by rw [bs_length, HSL.out, HM.out]) _ hx.range0
          have HX := Lib.hid L.2.1
          have HB := Lib.hid L.2.2
          clear L hown hx
          go_wp2_with (first
            | ((with_reducible refine wpList_pg_store (o := ⟨none, .store _ _ _, _, _, _, _⟩) rfl _ _ rfl (w.heap.size + 1) S pg0 HSL.out rfl rfl rfl HX.out ?_); intro w9 hb9 hg9 _)
            | fail)
          have hldF := big_load0 Try.prog (w.heap.size + 1) 0 (bs S) m (by rw [bs_length, HSL.out, HM.out]) _ hb9.range0
          generalize hR : bs S = R at hldF ⊢
          exact bodyPost_ret (v := .agg R.toArray) (by simp [results, Try.results23, go_sem, hsz, hldF]) rfl ⟨by rw [HS.out, hR], below_stored HB.out.1 hg9 HB.out.1.size (by omega)⟩

/-- the answer's Lay of whatever record -/
theorem rlayA_any (r : Rc) (w : World) (hk : R64 r) (hi : In r) :
    Calls Try.prog 23 #[.agg (rcs r).toArray] w fun e w' => e = .returned (.agg (bs (layA r)).toArray) ∧ Below w.heap.size w w' := by
  by_cases h : Ok r
  · rw [layA_ok h]
    exact rlay_any r w h hi
  · rw [show layA r = layG r from if_neg h]
    exact rlayG_any r w hk hi
end Go.Proofs.Ythgjlofebicpiaa

/-
  The mathematics of package geom: a measure's numbers, its places. No program.
-/
namespace Go.Proofs.Ythgjlofebicpiaa.Geom

/-- a measure's blocks -/
def blocks (seq size : Int) : Int := min ((seq - 5) * (size / 2)) 4096
/-- its pages -/
def pages (seq size : Int) : Int := (blocks seq size + 9) / 10
/-- it is right -/
def Ok (conv soft seq size opn : Int) : Prop := 2 ≤ conv ∧ 6 ≤ seq ∧ conv + seq ≤ 64 ∧ 8 ≤ size ∧ size ≤ 256 ∧ 3 ≤ opn ∧ pages seq size + 3 ≤ soft ∧ soft ≤ 65536
/-- its zones and sizes are -/
def Some (conv seq size : Int) : Prop := 2 ≤ conv ∧ 6 ≤ seq ∧ conv + seq ≤ 64 ∧ 8 ≤ size ∧ size ≤ 256
instance (conv soft seq size opn : Int) : Decidable (Ok conv soft seq size opn) := by unfold Ok; exact inferInstance
def okB (conv soft seq size opn : Int) : Bool := decide (Ok conv soft seq size opn)
theorem ok_yes {conv soft seq size opn : Int} (h : Ok conv soft seq size opn) : okB conv soft seq size opn = true := decide_eq_true h
theorem ok_no {conv soft seq size opn : Int} (h : ¬ Ok conv soft seq size opn) : okB conv soft seq size opn = false := decide_eq_false h
def zonesB (conv seq : Int) : Bool := decide (2 ≤ conv ∧ 6 ≤ seq ∧ conv + seq ≤ 64)
def sizeB (size : Int) : Bool := decide (8 ≤ size ∧ size ≤ 256)
def softB (soft seq size : Int) : Bool := decide (pages seq size + 3 ≤ soft ∧ soft ≤ 65536)
theorem zones_yes {conv seq : Int} (h : 2 ≤ conv ∧ 6 ≤ seq ∧ conv + seq ≤ 64) : zonesB conv seq = true := decide_eq_true h
theorem zones_no {conv seq : Int} (h : ¬ (2 ≤ conv ∧ 6 ≤ seq ∧ conv + seq ≤ 64)) : zonesB conv seq = false := decide_eq_false h
theorem size_yes {size : Int} (h : 8 ≤ size ∧ size ≤ 256) : sizeB size = true := decide_eq_true h
theorem size_no {size : Int} (h : ¬ (8 ≤ size ∧ size ≤ 256)) : sizeB size = false := decide_eq_false h
theorem soft_yes {soft seq size : Int} (h : pages seq size + 3 ≤ soft ∧ soft ≤ 65536) : softB soft seq size = true := decide_eq_true h
theorem soft_no {soft seq size : Int} (h : ¬ (pages seq size + 3 ≤ soft ∧ soft ≤ 65536)) : softB soft seq size = false := decide_eq_false h
theorem Ok.some {conv soft seq size opn : Int} (h : Ok conv soft seq size opn) : Some conv seq size := ⟨h.1, h.2.1, h.2.2.1, h.2.2.2.1, h.2.2.2.2.1⟩

theorem mul_in {a b A B : Int} (h0 : 0 ≤ a) (h1 : a ≤ A) (k0 : 0 ≤ b) (k1 : b ≤ B) : 0 ≤ a * b ∧ a * b ≤ A * B :=
  ⟨Int.mul_nonneg h0 k0, Int.mul_le_mul h1 k1 k0 (Int.le_trans h0 h1)⟩
theorem prod_bd {conv seq size : Int} (h : Some conv seq size) : 4 ≤ (seq - 5) * (size / 2) ∧ (seq - 5) * (size / 2) ≤ 8192 := by
  obtain ⟨h1, h2, h3, h4, h5⟩ := h
  have a := Int.mul_le_mul (show (1 : Int) ≤ seq - 5 by omega) (show (4 : Int) ≤ size / 2 by omega) (by omega) (by omega)
  have b := mul_in (show 0 ≤ seq - 5 by omega) (show seq - 5 ≤ 64 by omega) (show 0 ≤ size / 2 by omega) (show size / 2 ≤ 128 by omega)
  omega
theorem blocks_bd {conv seq size : Int} (h : Some conv seq size) : 4 ≤ blocks seq size ∧ blocks seq size ≤ 4096 := by
  have := prod_bd h
  unfold blocks
  omega
theorem pages_bd {conv seq size : Int} (h : Some conv seq size) : 1 ≤ pages seq size ∧ pages seq size ≤ 410 := by
  have := blocks_bd h
  unfold pages
  omega
theorem rooms {conv seq size : Int} (h : Some conv seq size) : 2 * blocks seq size < seq * size := by
  obtain ⟨h1, h2, h3, h4, h5⟩ := h
  have a : (seq - 5) * (size / 2) * 2 ≤ (seq - 5) * size := by
    rw [Int.mul_assoc]
    exact Int.mul_le_mul_of_nonneg_left (by omega) (by omega)
  have b : (seq - 5) * size = seq * size - 5 * size := Int.sub_mul _ _ _
  unfold blocks
  omega
theorem seats_bd {conv seq size : Int} (h : Some conv seq size) : 48 ≤ seq * size ∧ seq * size ≤ 16384 := by
  obtain ⟨h1, h2, h3, h4, h5⟩ := h
  have a := Int.mul_le_mul (show (6 : Int) ≤ seq by omega) (show (8 : Int) ≤ size by omega) (by omega) (by omega)
  have b := mul_in (show 0 ≤ seq by omega) (show seq ≤ 64 by omega) (show 0 ≤ size by omega) (show size ≤ 256 by omega)
  omega

/-- a sector of a sequential zone -/
def Seat (conv seq size zone off : Int) : Prop := conv ≤ zone ∧ zone < conv + seq ∧ 0 ≤ off ∧ off < size
instance (conv seq size zone off : Int) : Decidable (Seat conv seq size zone off) := by unfold Seat; exact inferInstance
/-- a place's number -/
def num (conv seq size zone off : Int) : Int := if Seat conv seq size zone off then (zone - conv) * size + off + 1 else 0
/-- a number's place: whether there is one, its zone, its sector -/
def isB (seq size n : Int) : Bool := decide (1 ≤ n ∧ n ≤ seq * size)
def zoneOf (conv seq size n : Int) : Int := if 1 ≤ n ∧ n ≤ seq * size then conv + (n - 1) / size else 0
def offOf (seq size n : Int) : Int := if 1 ≤ n ∧ n ≤ seq * size then (n - 1) % size else 0

theorem num_bd {conv seq size zone off : Int} (h : Seat conv seq size zone off) : 1 ≤ (zone - conv) * size + off + 1 ∧ (zone - conv) * size + off + 1 ≤ seq * size := by
  obtain ⟨h1, h2, h3, h4⟩ := h
  have a : (zone - conv) * size ≤ (seq - 1) * size := Int.mul_le_mul_of_nonneg_right (by omega) (by omega)
  have b : (seq - 1) * size = seq * size - 1 * size := Int.sub_mul _ _ _
  have c : 0 ≤ (zone - conv) * size := Int.mul_nonneg (by omega) (by omega)
  omega
theorem seat_of {conv seq size n : Int} (hs : 0 < size) (h : 1 ≤ n ∧ n ≤ seq * size) : Seat conv seq size (conv + (n - 1) / size) ((n - 1) % size) := by
  have a : 0 ≤ (n - 1) / size := Int.ediv_nonneg (by omega) (by omega)
  have b : (n - 1) / size < seq := Int.ediv_lt_of_lt_mul hs (by omega)
  have c := Int.emod_nonneg (n - 1) (show size ≠ 0 by omega)
  have d := Int.emod_lt_of_pos (n - 1) hs
  exact ⟨by omega, by omega, c, d⟩
theorem num_of {conv seq size n : Int} (hs : 0 < size) (h : 1 ≤ n ∧ n ≤ seq * size) : num conv seq size (conv + (n - 1) / size) ((n - 1) % size) = n := by
  unfold num
  rw [if_pos (seat_of hs h), show conv + (n - 1) / size - conv = (n - 1) / size by omega]
  have a := Int.mul_ediv_add_emod (n - 1) size
  rw [Int.mul_comm] at a
  omega
theorem of_num {conv seq size zone off : Int} (h : Seat conv seq size zone off) :
    conv + ((zone - conv) * size + off + 1 - 1) / size = zone ∧ ((zone - conv) * size + off + 1 - 1) % size = off := by
  obtain ⟨h1, h2, h3, h4⟩ := h
  have hs : 0 < size := by omega
  rw [show (zone - conv) * size + off + 1 - 1 = off + (zone - conv) * size by omega, Int.add_mul_ediv_right _ _ (by omega), Int.add_mul_emod_self_right, Int.ediv_eq_zero_of_lt h3 h4, Int.emod_eq_of_lt h3 h4]
  exact ⟨by omega, rfl⟩
end Go.Proofs.Ythgjlofebicpiaa.Geom

/-
  What each function of package geom does: one contract a function.
-/
namespace Go.Proofs.Ythgjlofebicpiaa
open Go.RowKit Geom
set_option linter.unusedVariables false

/-- a measure as a value -/
@[reducible] def geo (conv soft seq size opn : Int) : Value := .agg #[.int .i64 conv, .int .i64 soft, .int .i64 seq, .int .i64 size, .int .i64 opn]

theorem half_any (n : Int) (w : World) (h0 : 0 ≤ n) (h1 : n ≤ 65536) :
    Calls Try.prog 111 #[.int .i64 n] w fun e w' => e = .returned (.int .i64 (n / 2)) ∧ w = w' := by
  go_enter Try.func111, Try.ntmps111
  go_wp2
  go_ret
  exact ⟨rfl, rfl⟩

theorem blocks_any (conv soft seq size opn : Int) (w : World) (h : Some conv seq size) :
    Calls Try.prog 108 #[.agg #[.int .i64 conv, .int .i64 soft, .int .i64 seq, .int .i64 size, .int .i64 opn]] w fun e w' => e = .returned (.int .i64 (blocks seq size)) ∧ Below w.heap.size w w' := by
  have hp := prod_bd h
  obtain ⟨h1, h2, h3, h4, h5⟩ := h
  have HB := Lib.hid (show blocks seq size = min ((seq - 5) * (size / 2)) 4096 from rfl)
  go_enter Try.func108, Try.ntmps108
  go_wp2
  have hq1 := IntWalk.i64_in (seq - 5) (by omega)
  have hq2 := IntWalk.i64_in ((seq - 5) * (size / 2)) (by omega)
  go_region_with ((with_reducible refine (half_any _ _ (by omega) (by omega)).mono ?_); rintro e w' ⟨rfl, rfl⟩)
  all_goals
    go_wp2
    all_goals
      go_ret
      exact ⟨ret_int (by rw [HB.out]; omega), ((Below.refl _ _).alloc (Nat.le_refl _) _).drew⟩

theorem pages_any (conv soft seq size opn : Int) (w : World) (h : Some conv seq size) :
    Calls Try.prog 103 #[.agg #[.int .i64 conv, .int .i64 soft, .int .i64 seq, .int .i64 size, .int .i64 opn]] w fun e w' => e = .returned (.int .i64 (pages seq size)) ∧ Below w.heap.size w w' := by
  have hb := blocks_bd h
  have HP := Lib.hid (show pages seq size = (blocks seq size + 9) / 10 from rfl)
  have H := Lib.hid fun w => blocks_any conv soft seq size opn w h
  generalize blocks seq size = b at *
  generalize pages seq size = p at *
  obtain ⟨hb0, hb1⟩ := hb
  clear h
  go_enter Try.func103, Try.ntmps103
  go_wp2_with fail
  refine (H.out _).mono ?_
  rintro e w' ⟨rfl, hb⟩
  go_wp2
  go_ret
  exact ⟨ret_int (by rw [HP.out]; omega), bthen ((Below.refl _ _).alloc (Nat.le_refl _) _) hb⟩

theorem zones_any (conv soft seq size opn : Int) (w : World) (h : Some conv seq size) :
    Calls Try.prog 64 #[.agg #[.int .i64 conv, .int .i64 soft, .int .i64 seq, .int .i64 size, .int .i64 opn]] w fun e w' => e = .returned (.int .i64 (conv + seq)) ∧ Below w.heap.size w w' := by
  obtain ⟨h1, h2, h3, h4, h5⟩ := h
  go_enter Try.func64, Try.ntmps64
  go_wp2
  go_ret
  exact ⟨rfl, (Below.refl _ _).alloc (Nat.le_refl _) _⟩

theorem rightZones_any (conv soft seq size opn : Int) (w : World) (k : seq < 9223372036854775808) :
    Calls Try.prog 86 #[.agg #[.int .i64 conv, .int .i64 soft, .int .i64 seq, .int .i64 size, .int .i64 opn]] w fun e w' => e = .returned (.bool (zonesB conv seq)) ∧ Below w.heap.size w w' := by
  by_cases h1 : 2 ≤ conv
  · by_cases h2 : 6 ≤ seq
    · by_cases h3 : conv ≤ 64 - seq
      · have HD := Lib.hid (zones_yes (conv := conv) (seq := seq) (by omega))
        go_enter Try.func86, Try.ntmps86
        go_wp2
        go_ret
        exact ⟨ret_bool HD.out, (Below.refl _ _).alloc (Nat.le_refl _) _⟩
      · have HD := Lib.hid (zones_no (conv := conv) (seq := seq) (by omega))
        go_enter Try.func86, Try.ntmps86
        go_wp2
        go_ret
        exact ⟨ret_bool HD.out, (Below.refl _ _).alloc (Nat.le_refl _) _⟩
    · have HD := Lib.hid (zones_no (conv := conv) (seq := seq) (by omega))
      go_enter Try.func86, Try.ntmps86
      go_wp2
      go_ret
      exact ⟨ret_bool HD.out, (Below.refl _ _).alloc (Nat.le_refl _) _⟩
  · have HD := Lib.hid (zones_no (conv := conv) (seq := seq) (by omega))
    go_enter Try.func86, Try.ntmps86
    go_wp2
    go_ret
    exact ⟨ret_bool HD.out, (Below.refl _ _).alloc (Nat.le_refl _) _⟩

theorem rightSize_any (conv soft seq size opn : Int) (w : World) :
    Calls Try.prog 87 #[.agg #[.int .i64 conv, .int .i64 soft, .int .i64 seq, .int .i64 size, .int .i64 opn]] w fun e w' => e = .returned (.bool (sizeB size)) ∧ Below w.heap.size w w' := by
  by_cases h1 : 8 ≤ size
  · by_cases h2 : size ≤ 256
    · have HD := Lib.hid (size_yes (size := size) (by omega))
      go_enter Try.func87, Try.ntmps87
      go_wp2
      go_ret
      exact ⟨ret_bool HD.out, (Below.refl _ _).alloc (Nat.le_refl _) _⟩
    · have HD := Lib.hid (size_no (size := size) (by omega))
      go_enter Try.func87, Try.ntmps87
      go_wp2
      go_ret
      exact ⟨ret_bool HD.out, (Below.refl _ _).alloc (Nat.le_refl _) _⟩
  · have HD := Lib.hid (size_no (size := size) (by omega))
    go_enter Try.func87, Try.ntmps87
    go_wp2
    go_ret
    exact ⟨ret_bool HD.out, (Below.refl _ _).alloc (Nat.le_refl _) _⟩

set_option maxHeartbeats 1000000 in
theorem rightSoft_any (conv soft seq size opn : Int) (w : World) (h : Some conv seq size) :
    Calls Try.prog 88 #[.agg #[.int .i64 conv, .int .i64 soft, .int .i64 seq, .int .i64 size, .int .i64 opn]] w fun e w' => e = .returned (.bool (softB soft seq size)) ∧ Below w.heap.size w w' := by
  have hp := pages_bd h
  have HY := Lib.hid (show pages seq size + 3 ≤ soft → softB soft seq size = decide (soft ≤ 65536) from fun h => by unfold softB; rw [Bool.eq_iff_iff]; simp [h])
  have HN := Lib.hid fun h => soft_no (soft := soft) (seq := seq) (size := size) h
  have H := Lib.hid fun w => pages_any conv soft seq size opn w h
  generalize pages seq size = p at *
  obtain ⟨hp0, hp1⟩ := hp
  clear h
  have hq := IntWalk.i64_in (p + 3) (by omega)
  by_cases h1 : p + 3 ≤ soft
  · have HD := Lib.hid (HY.out h1)
    go_enter Try.func88, Try.ntmps88
    go_wp2
    go_region_with ((with_reducible refine (H.out _).mono ?_); rintro e w1 ⟨rfl, hb⟩; obtain ⟨hcl, hfz⟩ := bcell hb)
    all_goals
      go_wp2
      go_ret
      exact ⟨ret_bool HD.out, bthen ((Below.refl _ _).alloc (Nat.le_refl _) _).drew hb⟩
  · have hd : decide (p + 3 ≤ soft) = false := by simpa using h1
    have HD := Lib.hid (HN.out (fun h => h1 h.1))
    go_enter Try.func88, Try.ntmps88
    go_wp2
    first | go_region_with ((with_reducible refine (H.out _).mono ?_); rintro e w1 ⟨rfl, hb⟩; obtain ⟨hcl, hfz⟩ := bcell hb) | fail
    all_goals
      go_wp2
      go_ret
      exact ⟨ret_bool HD.out, bthen ((Below.refl _ _).alloc (Nat.le_refl _) _).drew hb⟩
end Go.Proofs.Ythgjlofebicpiaa

/-
  LfJ MsM
-/
import Derived.Test.YtgnpohkippegpaaGreatMg22
import Derived.Test.YtgnpohkippegpaaGreatMg24
import Derived.Test.YtgnpohkippegpaaGreatMg00
/-
  The document's answers for layer 7: low, Num, Right, Full.
-/
namespace Go.Proofs.YtgnpohkippegpaaGreat
open Go.RowKit Word Crc Leaf
set_option linter.unusedVariables false

set_option maxRecDepth 100000 in
set_option maxHeartbeats 2000000 in
theorem rlow7_any (N : Int) (c : Nat) (w : World) (h0 : 0 ≤ N) (h1 : N < 9223372036854775808) (hc : c ≤ 8) :
    Calls Tryz.prog 89 #[.int .i64 N, .int .i64 c] w fun e w' => ∃ V, e = .returned V ∧ w'.ownsRow w.heap.size 5 1 V c (bs (le c N)) ∧ Below w.heap.size w w' := by
  go_enter Tryz.func89, Tryz.ntmps89
  go_wp2_with fail
  go_loopw [0, 5, 6] (fun n o i wr => ∃ k : Nat, k ≤ c ∧ i = .int .i64 k ∧ n = .int .i64 (N / 2 ^ (8 * k)) ∧ wr.ownsRow w.heap.size 5 1 o k (bs (le k N)) ∧ Below w.heap.size w wr) (fun _ _ i _ => c - (intOf i).toNat)
  case atStart => exact ⟨0, by omega, rfl, by simp, World.ownsRow_nil _ _ _ _, Below.refl _ _⟩
  case round =>
    obtain ⟨k, hk, rfl, rfl, hown, hbl⟩ := hrel
    by_cases hlt : k < c
    · have HP := Lib.hid (show bs (le (k + 1) N) = bs (le k N) ++ [.int .u8 (N / 2 ^ (8 * k) % 256)] by
        rw [le_snoc, bs_append _ [_]]; rfl)
      have HN := Lib.hid (show N / 2 ^ (8 * (k + 1)) = N / 2 ^ (8 * k) / 256 by
        rw [pow8_succ, Int.mul_comm, Int.ediv_ediv_of_nonneg (Int.le_of_lt (pow8_pos _))])
      have hy : 0 ≤ N / 2 ^ (8 * k) := Int.ediv_nonneg (by omega) (Int.le_of_lt (pow8_pos _))
      have hy2 : N / 2 ^ (8 * k) < 9223372036854775808 := Int.lt_of_le_of_lt (Int.ediv_le_self _ h0) h1
      generalize N / 2 ^ (8 * k) = y at *
      clear h0 h1
      go_wp2_with (at_builtin; go_loud (refine wpList_append_one _ rfl _ _ _ rfl w.heap.size 5 _ 1 elem8 u5 k _ rfl _ rfl hown rfl (by simp only [maxLen]; omega) (by omega) hbl.size ?_); intro v1 w1 hown1 hg1)
      go_roundw
      case rel => exact ⟨k + 1, by omega, by go_num, by rw [HN.out], by rw [HP.out]; exact hown1, hbl.grown hg1 hbl.size fun g hg => (hown.lt g hg).1⟩
      case measure => simp [intOf]; omega
    · obtain rfl : c = k := by omega
      go_wp2
      go_ret
      exact ⟨_, rfl, hown, hbl⟩

set_option maxRecDepth 100000 in
set_option maxHeartbeats 2000000 in
theorem rnum7_any (p : List Int) (at_ n : Nat) (w : World) (hl : p.length = 64) (hp : octets p) (h1 : 1 ≤ n) (h8 : n ≤ 8) (hf : at_ + n ≤ 64) :
    Calls Tryz.prog 61 #[.agg (bs p).toArray, .int .i64 at_, .int .i64 n] w fun e w' => e = .returned (.int .i64 (Rec.hi (get p at_ n))) ∧ Below w.heap.size w w' := by
  have HP := Lib.hid (And.intro hl hp)
  clear hl hp
  go_enter Tryz.func61, Tryz.ntmps61
  go_wp2_with (first
    | ((with_reducible refine wpList_pg_box (o := ⟨some 3, .box _ _, _, _, _, _⟩) rfl _ rfl p rfl ?_); intro w1 x0 hB1 hs1)
    | fail)
  go_loop [7, 8] (fun x i => ∃ k : Nat, k ≤ n ∧ i = .int .i64 ((at_ : Int) + (k : Int) - 1) ∧ x = .int .i64 (horn p at_ k n) ∧ horn p at_ k n ≤ 1099511627776) (fun _ i => (intOf i + 1 - at_).toNat)
  case atStart => exact ⟨n, by omega, by go_num, by rw [horn_all], by rw [horn_all]; decide⟩
  case round =>
    obtain ⟨k, hk, rfl, rfl, hb⟩ := hrel
    have hlo := (horn_bounds p at_ k n HP.out.2).1
    by_cases hlt : 0 < k
    · obtain ⟨j, rfl⟩ : ∃ j, k = j + 1 := ⟨k - 1, by omega⟩
      have HS := Lib.hid (horn_step p at_ j n (by omega) (by rw [HP.out.1]; exact hf))
      have hc := (x0.cell (at_ + j)).trans (bs_get (by rw [HP.out.1]; omega))
      have hz := octets_getD HP.out.2 (at_ + j)
      have HU := Lib.hid (horn_up p at_ j n HP.out.2 (by omega) (by rw [HP.out.1]; exact hf))
      have HZ := Lib.hid (horn_zero p at_ n)
      generalize hxj : horn p at_ j n = x' at HS HU
      have HXJ := Lib.hid hxj
      clear hxj
      generalize horn p at_ (j + 1) n = x at *
      generalize p.getD (at_ + j) 0 = c at *
      have hz0 := hz.1
      have hz1 := hz.2
      have hidx : (at_ : Int) + ((j + 1 : Nat) : Int) - 1 = ((at_ + j : Nat) : Int) := by omega
      rw [hidx]
      clear hz hidx x0
      by_cases hbig : 1099511627776 < x * 256 + c
      · have HH := Lib.hid (show Rec.hi (get p at_ n) = -1 by
          have h1 := HU.out
          rw [HS.out, HZ.out] at h1
          unfold Rec.hi
          rw [if_pos (by omega)])
        have HB := Lib.hid hB1
        clear HU HZ hB1 hs1
        go_wp2
        go_ret
        exact ⟨ret_int HH.out, HB.out⟩
      · have HB := Lib.hid hB1
        clear hB1 hs1 HU HZ
        go_wp2
        go_round
        case rel => exact ⟨j, by omega, by go_num, by rw [HXJ.out, HS.out], by rw [HXJ.out, HS.out]; omega⟩
        case measure => simp [intOf]; omega
    · obtain rfl : k = 0 := by omega
      have HH := Lib.hid (show Rec.hi (get p at_ n) = horn p at_ 0 n by
        rw [← horn_zero]
        unfold Rec.hi
        rw [if_neg (by omega)])
      have HB := Lib.hid hB1
      clear hB1 hs1 x0
      generalize horn p at_ 0 n = x at *
      go_wp2
      go_ret
      exact ⟨ret_int HH.out, HB.out⟩


set_option maxRecDepth 100000 in
set_option maxHeartbeats 2000000 in
theorem rright7_any (l : Lf) (w : World) (hi : In l) :
    Calls Tryz.prog 64 #[.agg (lcs l).toArray] w fun e w' => e = .returned (.bool (okB l)) ∧ Below w.heap.size w w' := by
  have hbx := Box.new w 86 (lcs l)
  have hB := (Below.refl w.heap.size w).alloc (Nat.le_refl _) (.cells (lcs l).toArray 86 (0, 0))
  obtain ⟨c0, c1⟩ := hbx.lf
  have HB := Lib.hid hB
  have HX := Lib.hid hbx
  have HI := Lib.hid hi
  have HF := Lib.hid (okB_eq l)
  unfold Rec.numB idxB at HF
  generalize hW : w.alloc (.cells (lcs l).toArray 86) = W at *
  have HW := Lib.hid hW
  clear hB hbx hi
  by_cases g0 : 1 ≤ l.gen
  case neg =>
    go_enter Tryz.func64, Tryz.ntmps64
    go_wp2
    go_ret
    exact ⟨ret_bool (by rw [HF.out]; simp; intros; omega), HB.out⟩
  by_cases g1 : l.gen ≤ 1099511627776
  case neg =>
    go_enter Tryz.func64, Tryz.ntmps64
    go_wp2
    go_ret
    exact ⟨ret_bool (by rw [HF.out]; simp; intros; omega), HB.out⟩
  by_cases q0 : 0 ≤ l.index
  case neg =>
    go_enter Tryz.func64, Tryz.ntmps64
    go_wp2
    go_ret
    exact ⟨ret_bool (by rw [HF.out]; simp; intros; omega), HB.out⟩
  by_cases q1 : l.index ≤ 4096
  case neg =>
    go_enter Tryz.func64, Tryz.ntmps64
    go_wp2
    go_ret
    exact ⟨ret_bool (by rw [HF.out]; simp; intros; omega), HB.out⟩
  have HF2 := Lib.hid (show okB l = narrowB l.places by rw [HF.out, decide_eq_true g0, decide_eq_true g1, decide_eq_true q0, decide_eq_true q1]; rfl)
  clear HF
  go_enter Tryz.func64, Tryz.ntmps64
  go_wp2
  go_loop [3] (fun i => ∃ k : Nat, k ≤ 10 ∧ i = .int .i64 k ∧ ∀ j, j < k → place (l.places.getD j 0)) (fun i => 10 - (intOf i).toNat)
  case atStart => exact ⟨0, by omega, rfl, fun j hj => by omega⟩
  case round =>
    obtain ⟨k, hk, rfl, hall⟩ := hrel
    by_cases hlt : k < 10
    · have hkl : k < l.places.length := by rw [HI.out]; exact hlt
      have cx := HX.out.lfPlace hkl
      have HA := Lib.hid hall
      clear hall c0 c1
      by_cases hpl : place (l.places.getD k 0)
      · have HPl := Lib.hid hpl
        have h0 := hpl.1
        have h1 := hpl.2
        clear hpl
        generalize hx : l.places.getD k 0 = x at cx HPl h0 h1
        have HXe := Lib.hid hx
        clear hx
        go_wp2
        go_round
        case rel =>
          refine ⟨k + 1, by omega, by go_num, fun j hj => ?_⟩
          by_cases hjk : j = k
          · subst hjk; rw [HXe.out]; exact HPl.out
          · exact HA.out j (by omega)
        case measure => simp [intOf]; omega
      · have HFa := Lib.hid (show okB l = false by
          rw [HF2.out]
          exact decide_eq_false fun h => hpl (h _ (getD_mem hkl)))
        generalize l.places.getD k 0 = x at cx hpl
        by_cases h0 : 0 ≤ x
        · have h1 : ¬ x ≤ 4294967295 := fun h => hpl ⟨h0, h⟩
          clear hpl
          go_wp2
          go_ret
          exact ⟨ret_bool HFa.out, HB.out⟩
        · clear hpl
          go_wp2
          go_ret
          exact ⟨ret_bool HFa.out, HB.out⟩
    · obtain rfl : k = 10 := by omega
      have HT := Lib.hid (show okB l = true by
        rw [HF2.out]
        exact decide_eq_true (narrow_upto fun j hj => hall j (by rw [← HI.out]; exact hj)))
      go_wp2
      go_ret
      exact ⟨ret_bool HT.out, HB.out⟩

/-- a slice's length -/
def vlen : Value → Nat
  | .slice _ n _ => n
  | _ => 0
/-- noughts up to the sum -/
def pad (zs : List Int) : List Int := zs ++ List.replicate (60 - zs.length) 0
theorem pad_length {zs : List Int} (h : zs.length ≤ 60) : (pad zs).length = 60 := by simp [pad]; omega
theorem pad_octets {zs : List Int} (h : octets zs) : octets (pad zs) := Rec.octets_append h fun z hz => by simp at hz; omega
/-- the answer's page while a text is filled up -/
def FuSt (base : Nat) (w W : World) : Prop := Box W w.heap.size 43 (bs pg0) ∧ Below base w W ∧ w.heap.size + 1 ≤ W.heap.size
theorem FuSt.on {base : Nat} {w W W' : World} (h : FuSt base w W) (hb : Below W.heap.size W W') (hbs : base ≤ W.heap.size) : FuSt base w W' := ⟨h.1.on hb, h.2.1.trans (hb.mono hbs), Nat.le_trans h.2.2 hb.size⟩

set_option maxRecDepth 100000 in
set_option maxHeartbeats 4000000 in
theorem rfull_any (base : Nat) (A : Option Addr) (n c : Nat) (zs : List Int) (w : World) (hn : n ≤ 60) (hz : octets zs) (hbs : base ≤ w.heap.size) (hown : w.ownsRow base 5 1 (.slice A n c) n (bs zs)) :
    Calls Tryz.prog 88 #[.slice A n c] w fun e w' => e = .returned (.agg (bs (sealed (pad zs))).toArray) ∧ Below base w w' := by
  obtain ⟨m, hm, hsz⟩ := big_size (P := Tryz.prog) (t := 43) (s := 64) (by kernel_rfl)
  have hm0 : ¬ m = 0 := by omega
  have hlen : zs.length = n := by have := hown.1; rw [bs_length] at this; omega
  have HM := Lib.hid hm
  have HZ := Lib.hid (And.intro hz hlen)
  have HO := Lib.hid hown
  have HN := Lib.hid (And.intro hn hbs)
  clear hm hz hlen hown hn hbs
  go_enter Tryz.func88, Tryz.ntmps88
  go_wp2_with (first
    | ((with_reducible refine wpList_pg_alloc (o := ⟨some 2, .alloc _, _, _, _, _⟩) rfl rfl ?_); intro w1 x0 hB1 hs1)
    | fail)
  have HL := Lib.hid (show FuSt base w w1 from ⟨x0, hB1.mono HN.out.2, by omega⟩)
  have HO1 := Lib.hid (own_below HO.out hB1)
  clear x0 hB1 hs1 HO
  try simp only [Act.put, List.setIfInBounds_toArray, List.set_cons_succ, List.set_cons_zero]
  go_loopw [0] (fun v wr => ∃ q : Nat, n ≤ q ∧ q ≤ 60 ∧ FuSt base w wr ∧ wr.ownsRow base 5 1 v q (bs (zs ++ List.replicate (q - n) 0))) (fun v _ => 60 - vlen v)
  case atStart => exact ⟨n, Nat.le_refl _, HN.out.1, HL.out, by simpa using HO1.out⟩
  case round =>
    clear HL HO1
    obtain ⟨q, hq0, hq1, L, hown⟩ := hrel
    obtain ⟨A1, c1, hv⟩ := own_slice hown
    subst hv
    have hsz : base ≤ wr.heap.size := Nat.le_trans HN.out.2 (Nat.le_trans (Nat.le_succ _) L.2.2)
    by_cases hlt : q < 60
    · have HT := Lib.hid (show bs (zs ++ List.replicate (q + 1 - n) 0) = bs (zs ++ List.replicate (q - n) 0) ++ [.int .u8 0] by
        rw [show q + 1 - n = (q - n) + 1 by omega, List.replicate_succ', ← List.append_assoc, bs_append _ [_]]
        rfl)
      have HLL := Lib.hid (And.intro L (show ∀ g, (Value.slice A1 q c1).ownBlock = some g → w.heap.size ≠ g from fun g hg => L.1.ne_row hown hg (by decide)))
      clear L
      go_wp2_with (at_builtin; go_loud (refine wpList_append_one _ rfl _ _ _ rfl base 5 _ 1 elem8 (.slice A1 q c1) q _ rfl _ rfl hown rfl (by simp only [maxLen]; omega) (by omega) hsz ?_); intro v1 w4 hown4 hg4)
      go_roundw
      case rel =>
        have h := HLL.out
        refine ⟨q + 1, by omega, by omega, ⟨h.1.1.same (hg4.block _ h.1.1.lt fun e => h.2 _ (by first | exact e | exact e.symm) rfl), h.1.2.1.grown hg4 hsz fun g hg => (hown.lt g hg).1, Nat.le_trans h.1.2.2 hg4.size⟩, by rw [HT.out]; exact hown4⟩
      case measure =>
        obtain ⟨A2, c2, hv2⟩ := own_slice hown4
        rw [hv2]
        show 60 - (q + 1) < 60 - q
        omega
    · obtain rfl : q = 60 := by omega
      have hP : zs ++ List.replicate (60 - n) 0 = pad zs := by unfold pad; rw [HZ.out.2]
      rw [hP] at hown
      clear hP
      have hpl := pad_length (zs := zs) (by rw [HZ.out.2]; exact HN.out.1)
      have hpo := pad_octets HZ.out.1
      have HSL := Lib.hid (show (sealed (pad zs)).length = 64 by rw [sealed_length, hpl])
      have hrd : Rd wr wr.heap.size A1 (bs (pad zs)) := Rd.own hown
      have HSe := Lib.hid (rseal_any A1 60 c1 (pad zs) wr (by decide) hpl hpo hrd)
      have HL := Lib.hid L
      have HBS := Lib.hid hsz
      clear L hown hrd hpl hpo hsz
      go_wp2_with fail
      refine HSe.out.mono ?_
      rintro e w5 ⟨A', c', rfl, hown5, hb5⟩
      have hown5 : w5.ownsRow wr.heap.size 5 1 (.slice A' 64 c') 64 (bs (sealed (pad zs))) := hown5
      have hL5 : FuSt base w w5 := HL.out.on hb5 HBS.out
      have HBS5 := Lib.hid (show base ≤ w5.heap.size from Nat.le_trans HBS.out hb5.size)
      have HWR := Lib.hid (show w.heap.size < wr.heap.size from HL.out.2.2)
      clear HL HSe hb5 HBS
      rw [show (60 : Nat) + 4 = 64 from rfl]
      obtain ⟨g, rfl, hgb, hgl⟩ := own_at hown5 (by omega)
      have HO := Lib.hid hown5
      have HL := Lib.hid hL5
      have HG := Lib.hid (And.intro hgb hgl)
      clear hown5 hL5 hgb hgl
      generalize hS : sealed (pad zs) = S at *
      have HS := Lib.hid hS
      clear hS
      generalize wr.heap.size = B3 at *
      go_wp2_with (first
        | ((with_reducible refine wpList_pg_alloc (o := ⟨some 3, .alloc _, _, _, _, _⟩) rfl rfl ?_); intro w16 x16 hB16 hs16)
        | fail)
      have HX0 := Lib.hid (And.intro (HL.out.on hB16 HBS5.out) (And.intro x16 (own_below HO.out hB16)))
      have HB5 := Lib.hid (show B3 ≤ g ∧ g < w5.heap.size ∧ w.heap.size < w5.heap.size ∧ base ≤ w5.heap.size from ⟨HG.out.1, HG.out.2, HL.out.2.2, HBS5.out⟩)
      clear x16 hB16 hs16 HL HO HG
      generalize w5.heap.size = b5 at *
      try simp only [Act.put, List.setIfInBounds_toArray, List.set_cons_succ, List.set_cons_zero]
      go_loopw [4] (fun i wr => ∃ n : Nat, n ≤ 64 ∧ i = .int .i64 n ∧ FuSt base w wr ∧ Box wr b5 43 (bs (mix S pg0 n)) ∧ wr.ownsRow B3 5 1 (.slice (some ⟨g, 0, none⟩) 64 c') 64 (bs S)) (fun i _ => 64 - (intOf i).toNat)
      case atStart => exact ⟨0, by omega, rfl, HX0.out.1, by rw [mix_zero]; exact HX0.out.2.1, HX0.out.2.2⟩
      case round =>
        clear HX0
        obtain ⟨n, hn1, rfl, L, hx, hown⟩ := hrel
        by_cases hlt : n < 64
        · have hml : (mix S pg0 n).length = 64 := (mix_length (by rw [HSL.out]; rfl) hn1).trans rfl
          have c1 := (hown.cellAt n (by omega)).trans (bs_get (by rw [HSL.out]; exact hlt))
          have c0 := (hx.cell n).trans (bs_get (by rw [hml]; exact hlt))
          have f0 := hx.frozen n
          have HX := Lib.hid (mix_set (S := S) (p := pg0) (n := n) (by rw [HSL.out]; rfl) hlt)
          generalize S.getD n 0 = s at c1 HX
          generalize (mix S pg0 n).getD n 0 = s0 at c0
          have HH := Lib.hid (And.intro L (And.intro hx hown))
          clear hml L hx hown
          go_wp2
          go_roundw
          case rel =>
            obtain ⟨L, hx, hown⟩ := HH.out
            have e : ∀ x, x ≠ b5 → (wr.setCell ⟨b5, n, none⟩ (.int .u8 s)).heap[x]? = wr.heap[x]? := fun x hx => heap_setCell_other _ _ _ _ hx
            have hG := HB5.out
            refine ⟨n + 1, by omega, by go_num, ⟨L.1.same (e _ (by omega)), L.2.1.setCell (by show base ≤ b5; omega) _, by have := L.2.2; simpa [World.setCell] using this⟩, ?_, ?_⟩
            · have := hx.set n (.int .u8 s)
              rw [← bs_set, HX.out] at this
              exact this
            · refine own_same hown fun g' hg' => e _ ?_
              injection hg' with hg'
              have : g = g' := hg'
              omega
          case measure => simp [intOf]; omega
        · obtain rfl : n = 64 := by omega
          rw [mix_all (S := S) (p := pg0) (n := 64) (by rw [HSL.out]; rfl) rfl] at hx
          have hld := big_load0 Tryz.prog b5 0 (bs S) m (by rw [bs_length, HSL.out, HM.out]) _ hx.range0
          have HX := Lib.hid L.1
          have HB := Lib.hid L.2
          clear L hown hx
          go_wp2_with (first
            | ((with_reducible refine wpList_pg_store (o := ⟨none, .store _ _ _, _, _, _, _⟩) rfl _ _ rfl w.heap.size S pg0 HSL.out rfl rfl rfl HX.out ?_); intro w9 hb9 hg9 _)
            | fail)
          have hldF := big_load0 Tryz.prog w.heap.size 0 (bs S) m (by rw [bs_length, HSL.out, HM.out]) _ hb9.range0
          generalize hR : bs S = R at hldF ⊢
          exact bodyPost_ret (v := .agg R.toArray) (by simp [results, Tryz.results88, go_sem, hsz, hldF]) rfl ⟨by rw [HS.out, hR], below_stored HB.out.1 hg9 (Nat.le_trans HN.out.2 (Nat.le_trans (Nat.le_succ _) HB.out.2)) HN.out.2⟩
end Go.Proofs.YtgnpohkippegpaaGreat

/-
  Package mast, xs plain mathematics on lists of bytes: masts, measures, their sectors, what is read. No program but the sums' own texts.
-/
namespace Go.Proofs.YtgnpohkippegpaaGreat
open Go.RowKit Word Crc
set_option linter.unusedVariables false

namespace Mast
open Rec (num numB i64 hi octets_append get_mid hi_i64 i64_low i64_high)
open Leaf (idx idxB put_midL)
/-- fields, each with how many bytes it takes -/
def enc (fs : List (Nat × Int)) : List Int := fs.flatMap fun f => le f.1 f.2
def wid : List (Nat × Int) → Nat
  | [] => 0
  | f :: fs => f.1 + wid fs
theorem wid_append (xs bs : List (Nat × Int)) : wid (xs ++ bs) = wid xs + wid bs := by
  induction xs with
  | nil => simp [wid]
  | cons a xs ih => simp only [List.cons_append, wid, ih]; omega
theorem enc_length (fs : List (Nat × Int)) : (enc fs).length = wid fs := by
  induction fs with
  | nil => rfl
  | cons f fs ih => unfold enc at *; rw [List.flatMap_cons, List.length_append, ih, le_length]; rfl
theorem enc_append (xs bs : List (Nat × Int)) : enc (xs ++ bs) = enc xs ++ enc bs := List.flatMap_append
theorem enc_octets (fs : List (Nat × Int)) : octets (enc fs) := by
  intro z hz
  obtain ⟨p, _, h⟩ := List.mem_flatMap.1 hz
  exact le_bytes _ _ z h
def front (b : Int) (fs : List (Nat × Int)) : List Int := pad ([b] ++ enc fs)
def secL (b : Int) (fs : List (Nat × Int)) : List Int := sealed (front b fs)
section
variable {b : Int} {fs : List (Nat × Int)}
theorem front_length (h : wid fs ≤ 59) : (front b fs).length = 60 := pad_length (by simp [enc_length]; omega)
theorem front_octets (hb : 0 ≤ b ∧ b < 256) : octets (front b fs) := pad_octets (octets_append (fun z hz => by simp at hz; omega) (enc_octets fs))
theorem secL_length (h : wid fs ≤ 59) : (secL b fs).length = 64 := by unfold secL; rw [sealed_length, front_length h]
theorem secL_octets (hb : 0 ≤ b ∧ b < 256) : octets (secL b fs) := sealed_octets (front_octets hb)
theorem secL_right (hb : 0 ≤ b ∧ b < 256) : rightB (secL b fs) = true := right_sealed (front_octets hb)
end
theorem secL_eq (b : Int) (fs : List (Nat × Int)) : ∃ rest, secL b fs = [b] ++ (enc fs ++ rest) := by
  refine ⟨List.replicate (60 - ([b] ++ enc fs).length) 0 ++ le 4 ((Crc.sum (front b fs) : Nat) : Int), ?_⟩
  unfold secL sealed
  generalize le 4 ((Crc.sum (front b fs) : Nat) : Int) = s
  unfold front pad
  simp only [List.append_assoc]
theorem secL_zero (b : Int) (fs : List (Nat × Int)) : (secL b fs).getD 0 0 = b := by
  obtain ⟨rest, h⟩ := secL_eq b fs
  rw [h]; rfl
theorem get_field (b : Int) (xs : List (Nat × Int)) (n : Nat) (v : Int) (bs : List (Nat × Int)) : get (secL b (xs ++ (n, v) :: bs)) (1 + wid xs) n = v % 2 ^ (8 * n) := by
  obtain ⟨rest, h⟩ := secL_eq b (xs ++ (n, v) :: bs)
  have e : secL b (xs ++ (n, v) :: bs) = ([b] ++ enc xs) ++ (le n v ++ (enc bs ++ rest)) := by
    rw [h, enc_append]
    show [b] ++ ((enc xs ++ (le n v ++ enc bs)) ++ rest) = _
    simp only [List.append_assoc]
  rw [e]
  exact get_mid _ _ n v _ (by simp [enc_length]; omega)

/-! the sector, xs the program's stores make it -/
def stage (b : Int) (fs : List (Nat × Int)) : List Int := ([b] ++ enc fs) ++ List.replicate (63 - wid fs) 0
theorem stage_length (b : Int) (fs : List (Nat × Int)) (h : wid fs ≤ 63) : (stage b fs).length = 64 := by simp [stage, enc_length]; omega
theorem stage_octets {b : Int} (hb : 0 ≤ b ∧ b < 256) (fs : List (Nat × Int)) : octets (stage b fs) := by
  unfold stage
  refine octets_append (octets_append (fun z hz => by simp at hz; omega) (enc_octets _)) fun z hz => by simp at hz; omega
theorem stage_zero (b : Int) : (List.replicate 64 (0 : Int)).set 0 b = stage b [] := rfl
theorem stage_mark (b c : Int) : (stage b []).set 0 c = stage c [] := rfl
theorem stage_put (b : Int) (xs : List (Nat × Int)) (n : Nat) (v : Int) (h : wid xs + n ≤ 63) : put (stage b xs) (1 + wid xs) n v = stage b (xs ++ [(n, v)]) := by
  unfold stage
  rw [show 63 - wid xs = n + (63 - wid (xs ++ [(n, v)])) by rw [wid_append]; simp only [wid]; omega, put_midL _ (1 + wid xs) n _ _ (by simp [enc_length]; omega), enc_append]
  simp only [enc, List.flatMap_cons, List.flatMap_nil, List.append_nil, List.append_assoc]
theorem stage_end (b : Int) (fs : List (Nat × Int)) (h : wid fs ≤ 59) : (stage b fs).take 60 = front b fs := by
  have e : stage b fs = front b fs ++ List.replicate 4 0 := by
    unfold stage front pad
    rw [List.append_assoc ([b] ++ enc fs), List.replicate_append_replicate]
    congr 2
    simp [enc_length]; omega
  rw [e, List.take_left' (front_length h)]

/-! masts -/
structure Mst where
  foot : Bool
  gen : Int
  epoch : Int
  seq : Int
  pages : Int
  sum : Int
abbrev m0 : Mst := ⟨false, 0, 0, 0, 0, 0⟩
abbrev sqn (n : Int) : Prop := 0 ≤ n ∧ n ≤ 1099511627776
def sqnB (n : Int) : Bool := decide (0 ≤ n) && decide (n ≤ 1099511627776)
theorem sqnB_yes {n : Int} (h : sqn n) : sqnB n = true := by unfold sqnB; rw [decide_eq_true h.1, decide_eq_true h.2]; rfl
theorem sqnB_no {n : Int} (h : ¬ sqn n) : sqnB n = false := by
  unfold sqnB
  by_cases h1 : 0 ≤ n
  · rw [decide_eq_true h1, decide_eq_false (fun h2 => h ⟨h1, h2⟩)]; rfl
  · rw [decide_eq_false h1]; rfl
def Ok (m : Mst) : Prop := num m.gen ∧ num m.epoch ∧ sqn m.seq ∧ idx m.pages ∧ (m.foot = true ∨ m.sum = 0)
instance (m : Mst) : Decidable (Ok m) := by unfold Ok; exact inferInstance
def okB (m : Mst) : Bool := decide (Ok m)
theorem okB_eq (m : Mst) : okB m = (numB m.gen && numB m.epoch && (sqnB m.seq && idxB m.pages && (m.foot || m.sum == 0))) := by
  unfold okB Ok numB sqnB idxB
  rw [Bool.eq_iff_iff]
  simp only [decide_eq_true_eq, Bool.or_eq_true, Bool.and_eq_true, beq_iff_eq, and_assoc]
/-- a mast's sum is in its type -/
def In (m : Mst) : Prop := 0 ≤ m.sum ∧ m.sum < 4294967296
theorem m0_in : In m0 := by simp [In]
def mark (m : Mst) : Int := if m.foot then 130 else 129
theorem mark_bd (m : Mst) : 0 ≤ mark m ∧ mark m < 256 := by unfold mark; split <;> omega
theorem mark_two (m : Mst) : mark m = 129 ∨ mark m = 130 := by unfold mark; split <;> simp
theorem mark_foot (m : Mst) : (mark m == 130) = m.foot := by unfold mark; cases m.foot <;> rfl
def fs (m : Mst) : List (Nat × Int) := [(8, m.gen), (8, m.epoch), (8, m.seq), (4, m.pages), (4, m.sum)]
def layL (m : Mst) : List Int := secL (mark m) (fs m)
theorem fs_wid (m : Mst) : wid (fs m) ≤ 59 := by show (8 + (8 + (8 + (4 + (4 + 0))))) ≤ 59; omega
theorem layL_length (m : Mst) : (layL m).length = 64 := secL_length (fs_wid m)
theorem layL_octets (m : Mst) : octets (layL m) := secL_octets (mark_bd m)
theorem layL_right (m : Mst) : rightB (layL m) = true := secL_right (mark_bd m)
theorem layL_zero (m : Mst) : (layL m).getD 0 0 = mark m := secL_zero _ _
/-- what stands in a sector -/
def taken (p : List Int) : Mst := ⟨p.getD 0 0 == 130, i64 (get p 1 8), i64 (get p 9 8), i64 (get p 17 8), get p 25 4, get p 29 4⟩
theorem taken_in {p : List Int} (hp : octets p) : In (taken p) := by
  have := get_bounds p 29 4 hp
  exact ⟨this.1, by have := this.2; show get p 29 4 < 4294967296; omega⟩
theorem taken_lay {m : Mst} (h : Ok m) (hi : In m) : taken (layL m) = m := by
  obtain ⟨h1, h2, h3, h4, h5⟩ := h
  have e1 : get (layL m) 1 8 = m.gen % 2 ^ (8 * 8) := get_field (mark m) [] 8 m.gen [(8, m.epoch), (8, m.seq), (4, m.pages), (4, m.sum)]
  have e2 : get (layL m) 9 8 = m.epoch % 2 ^ (8 * 8) := get_field (mark m) [(8, m.gen)] 8 m.epoch [(8, m.seq), (4, m.pages), (4, m.sum)]
  have e3 : get (layL m) 17 8 = m.seq % 2 ^ (8 * 8) := get_field (mark m) [(8, m.gen), (8, m.epoch)] 8 m.seq [(4, m.pages), (4, m.sum)]
  have e4 : get (layL m) 25 4 = m.pages % 2 ^ (8 * 4) := get_field (mark m) [(8, m.gen), (8, m.epoch), (8, m.seq)] 4 m.pages [(4, m.sum)]
  have e5 : get (layL m) 29 4 = m.sum % 2 ^ (8 * 4) := get_field (mark m) [(8, m.gen), (8, m.epoch), (8, m.seq), (4, m.pages)] 4 m.sum []
  obtain ⟨i1, i2⟩ := hi
  rw [Int.emod_eq_of_lt (by omega) (by omega)] at e1 e2 e3 e4 e5
  unfold taken
  rw [e1, e2, e3, e4, e5, layL_zero, mark_foot, i64_low (by omega) (by omega), i64_low (by omega) (by omega), i64_low (by omega) (by omega)]
/-- what Read answers: the mast, and why it is none -/
def readS (p : List Int) : Mst × Int :=
  if rightB p = false then (m0, 8) else if okB (taken p) = true ∧ layL (taken p) = p then (taken p, 0) else (m0, 7)
theorem read_lay {m : Mst} (h : Ok m) (hi : In m) : readS (layL m) = (m, 0) := by
  unfold readS
  rw [if_neg (by rw [layL_right m]; simp), taken_lay h hi, if_pos ⟨decide_eq_true h, rfl⟩]
theorem lay_inj {a b : Mst} (ha : Ok a) (hb : Ok b) (ia : In a) (ib : In b) (h : layL a = layL b) : a = b := by
  rw [← taken_lay ha ia, h, taken_lay hb ib]
theorem read_in {p : List Int} (hp : octets p) : In (readS p).1 := by
  unfold readS
  split
  · exact m0_in
  · split
    · exact taken_in hp
    · exact m0_in
theorem read_other {p : List Int} (hr : rightB p = true) (h : p.getD 0 0 ≠ 129 ∧ p.getD 0 0 ≠ 130) : readS p = (m0, 7) := by
  unfold readS
  rw [if_neg (by rw [hr]; simp), if_neg]
  rintro ⟨_, e⟩
  have h1 := layL_zero (taken p)
  rw [e] at h1
  rcases mark_two (taken p) with h2 | h2 <;> rw [h2] at h1 <;> omega
theorem read_ok {p : List Int} (h : (readS p).2 = 0) : okB (readS p).1 = true ∧ layL (readS p).1 = p := by
  unfold readS at *
  split at h
  · simp at h
  · rw [if_neg (by assumption)]
    split at h
    · rw [if_pos (by assumption)]; assumption
    · simp at h

/-! the document's answer -/
def rtaken (p : List Int) : Mst := ⟨p.getD 0 0 == 130, hi (get p 1 8), hi (get p 9 8), hi (get p 17 8), get p 25 4, get p 29 4⟩
theorem rtaken_in {p : List Int} (hp : octets p) : In (rtaken p) := taken_in hp
def rreadS (p : List Int) : Mst × Int :=
  if rightB p = false then (m0, 8) else if okB (rtaken p) = true ∧ layL (rtaken p) = p then (rtaken p, 0) else (m0, 7)
theorem hi_sq {x : Int} (h0 : 0 ≤ x) (h1 : x < 18446744073709551616) : (sqn (hi x) ↔ sqn (i64 x)) ∧ (sqn (hi x) → hi x = i64 x) := by
  unfold hi
  by_cases h : 1099511627776 < x
  · rw [if_pos h]
    by_cases h2 : x < 9223372036854775808
    · rw [i64_low h0 h2]
      exact ⟨⟨fun h => by omega, fun h => by omega⟩, fun h => by omega⟩
    · rw [i64_high (by omega) h1]
      exact ⟨⟨fun h => by omega, fun h => by omega⟩, fun h => by omega⟩
  · rw [if_neg h, i64_low h0 (by omega)]
    exact ⟨Iff.rfl, fun _ => rfl⟩
theorem hi_small {p : List Int} (a : Nat) (hp : octets p) : hi (get p a 4) = get p a 4 := by
  have := get_bounds p a 4 hp
  unfold hi
  rw [if_neg (by omega)]
theorem i64_small {p : List Int} (a : Nat) (hp : octets p) : i64 (get p a 4) = get p a 4 := by
  have := get_bounds p a 4 hp
  exact i64_low this.1 (by omega)
theorem read_eq {p : List Int} (hp : octets p) : rreadS p = readS p := by
  unfold rreadS readS
  by_cases hr : rightB p = false
  · rw [if_pos hr, if_pos hr]
  · rw [if_neg hr, if_neg hr]
    have b1 := get_bounds p 1 8 hp
    have b2 := get_bounds p 9 8 hp
    have b3 := get_bounds p 17 8 hp
    have i1 := hi_i64 (x := get p 1 8) b1.1 (by have := b1.2; omega)
    have i2 := hi_i64 (x := get p 9 8) b2.1 (by have := b2.2; omega)
    have i3 := hi_sq (x := get p 17 8) b3.1 (by have := b3.2; omega)
    have hsame : okB (rtaken p) = true → rtaken p = taken p := by
      intro h
      have hk : Ok (rtaken p) := of_decide_eq_true h
      unfold rtaken taken
      rw [i1.2 hk.1, i2.2 hk.2.1, i3.2 hk.2.2.1]
    have hback : okB (taken p) = true → rtaken p = taken p := by
      intro h
      have hk : Ok (taken p) := of_decide_eq_true h
      unfold rtaken taken
      rw [i1.2 (i1.1.2 hk.1), i2.2 (i2.1.2 hk.2.1), i3.2 (i3.1.2 hk.2.2.1)]
    by_cases hc : okB (rtaken p) = true ∧ layL (rtaken p) = p
    · have he := hsame hc.1
      rw [if_pos hc, he, if_pos (he ▸ hc)]
    · rw [if_neg hc, if_neg]
      rintro ⟨h1, h2⟩
      exact hc (by rw [hback h1]; exact ⟨h1, h2⟩)

/-! measures -/
structure Ge where
  conv : Int
  soft : Int
  seq : Int
  size : Int
  opn : Int
abbrev g0 : Ge := ⟨0, 0, 0, 0, 0⟩
def grB (g : Ge) : Bool := Geom.okB g.conv g.soft g.seq g.size g.opn
def GOk (g : Ge) : Prop := Geom.Ok g.conv g.soft g.seq g.size g.opn ∧ g.opn ≤ 2147483647
instance (g : Ge) : Decidable (GOk g) := by unfold GOk; exact inferInstance
def gokB (g : Ge) : Bool := decide (GOk g)
theorem gokB_eq (g : Ge) : gokB g = (grB g && decide (g.opn ≤ 2147483647)) := by
  unfold gokB GOk grB Geom.okB
  rw [Bool.eq_iff_iff, Bool.and_eq_true, decide_eq_true_iff, decide_eq_true_iff]
  exact ⟨of_decide_eq_true, decide_eq_true⟩
theorem GOk.bounds {g : Ge} (h : GOk g) : (0 ≤ g.conv ∧ g.conv < 4294967296) ∧ (0 ≤ g.soft ∧ g.soft < 4294967296) ∧ (0 ≤ g.seq ∧ g.seq < 4294967296) ∧ (0 ≤ g.size ∧ g.size < 4294967296) ∧ (0 ≤ g.opn ∧ g.opn < 4294967296) := by
  obtain ⟨h, ho⟩ := h
  have hp := Geom.pages_bd h.some
  obtain ⟨h1, h2, h3, h4, h5, h6, h7, h8⟩ := h
  refine ⟨?_, ?_, ?_, ?_, ?_⟩ <;> omega
def gfs (g : Ge) : List (Nat × Int) := [(4, g.conv), (4, g.soft), (4, g.seq), (4, g.size), (4, g.opn)]
def glayL (g : Ge) : List Int := secL 131 (gfs g)
theorem gfs_wid (g : Ge) : wid (gfs g) ≤ 59 := by show (4 + (4 + (4 + (4 + (4 + 0))))) ≤ 59; omega
theorem glayL_length (g : Ge) : (glayL g).length = 64 := secL_length (gfs_wid g)
theorem glayL_octets (g : Ge) : octets (glayL g) := secL_octets (by omega)
theorem glayL_right (g : Ge) : rightB (glayL g) = true := secL_right (by omega)
theorem glayL_zero (g : Ge) : (glayL g).getD 0 0 = 131 := secL_zero _ _
def gtaken (p : List Int) : Ge := ⟨get p 1 4, get p 5 4, get p 9 4, get p 13 4, get p 17 4⟩
theorem gtaken_lay {g : Ge} (h : GOk g) : gtaken (glayL g) = g := by
  obtain ⟨h1, h2, h3, h4, h5⟩ := h.bounds
  have e1 : get (glayL g) 1 4 = g.conv % 2 ^ (8 * 4) := get_field 131 [] 4 g.conv [(4, g.soft), (4, g.seq), (4, g.size), (4, g.opn)]
  have e2 : get (glayL g) 5 4 = g.soft % 2 ^ (8 * 4) := get_field 131 [(4, g.conv)] 4 g.soft [(4, g.seq), (4, g.size), (4, g.opn)]
  have e3 : get (glayL g) 9 4 = g.seq % 2 ^ (8 * 4) := get_field 131 [(4, g.conv), (4, g.soft)] 4 g.seq [(4, g.size), (4, g.opn)]
  have e4 : get (glayL g) 13 4 = g.size % 2 ^ (8 * 4) := get_field 131 [(4, g.conv), (4, g.soft), (4, g.seq)] 4 g.size [(4, g.opn)]
  have e5 : get (glayL g) 17 4 = g.opn % 2 ^ (8 * 4) := get_field 131 [(4, g.conv), (4, g.soft), (4, g.seq), (4, g.size)] 4 g.opn []
  rw [Int.emod_eq_of_lt (by omega) (by omega)] at e1 e2 e3 e4 e5
  unfold gtaken
  rw [e1, e2, e3, e4, e5]
def readGS (p : List Int) : Ge × Int :=
  if rightB p = false then (g0, 8) else if gokB (gtaken p) = true ∧ glayL (gtaken p) = p then (gtaken p, 0) else (g0, 7)
theorem gread_lay {g : Ge} (h : GOk g) : readGS (glayL g) = (g, 0) := by
  unfold readGS
  rw [if_neg (by rw [glayL_right g]; simp), gtaken_lay h, if_pos ⟨decide_eq_true h, rfl⟩]
theorem gread_other {p : List Int} (hr : rightB p = true) (h : p.getD 0 0 ≠ 131) : readGS p = (g0, 7) := by
  unfold readGS
  rw [if_neg (by rw [hr]; simp), if_neg]
  rintro ⟨_, e⟩
  have h1 := glayL_zero (gtaken p)
  rw [e] at h1
  exact h h1
theorem gread_ok {p : List Int} (h : (readGS p).2 = 0) : gokB (readGS p).1 = true ∧ glayL (readGS p).1 = p := by
  unfold readGS at *
  split at h
  · simp at h
  · rw [if_neg (by assumption)]
    split at h
    · rw [if_pos (by assumption)]; assumption
    · simp at h
theorem gtaken_seq {p : List Int} (hp : octets p) : (gtaken p).seq < 9223372036854775808 := by
  have := get_bounds p 9 4 hp
  show get p 9 4 < _
  omega
theorem gread_seq {p : List Int} (hp : octets p) : (readGS p).1.seq < 9223372036854775808 := by
  unfold readGS
  split
  · show (0 : Int) < _; decide
  · split
    · exact gtaken_seq hp
    · show (0 : Int) < _; decide
/-- no sector is both -/
theorem not_both {p : List Int} (h1 : (readS p).2 = 0) (h2 : (readGS p).2 = 0) : False := by
  have a := (read_ok h1).2
  have b := (gread_ok h2).2
  have a1 := layL_zero (readS p).1
  have b1 := glayL_zero (readGS p).1
  rw [a] at a1
  rw [b] at b1
  rcases mark_two (readS p).1 with h | h <;> rw [h] at a1 <;> omega

/-! no mast's sector is another's -/
theorem geo_of_mast (m : Mst) : readGS (layL m) = (g0, 7) := gread_other (layL_right m) (by rw [layL_zero]; rcases mark_two m with h | h <;> rw [h] <;> omega)
theorem mast_of_geo (g : Ge) : readS (glayL g) = (m0, 7) := read_other (glayL_right g) (by rw [glayL_zero]; omega)
theorem mast_of_leaf (l : Leaf.Lf) : readS (Leaf.layL l) = (m0, 7) := read_other (Leaf.layL_right l) (by rw [Leaf.layL_zero]; omega)
theorem mast_of_rec (r : Rec.Rc) (h : Rec.Ok r) (hi : Rec.In r) : readS (Rec.layL r) = (m0, 7) := read_other (Rec.layL_right h hi.2) (by rw [Leaf.rec_zero]; have := h.kind; omega)
theorem leaf_of_mast (m : Mst) : Leaf.readS (layL m) = (Leaf.lf0, 7) := by
  unfold Leaf.readS
  rw [if_neg (by rw [layL_right m]; simp), if_neg]
  rintro ⟨_, e⟩
  have h1 := Leaf.layL_zero (Leaf.taken (layL m))
  rw [e, layL_zero] at h1
  rcases mark_two m with h | h <;> omega
theorem rec_of_mast (m : Mst) : Rec.readS (layL m) = (Rec.rc0, 7) := by
  unfold Rec.readS
  rw [if_neg (by rw [layL_right m]; simp), if_neg]
  rintro ⟨h, _⟩
  have hk := (of_decide_eq_true h : Rec.Ok (Rec.taken (layL m))).kind
  have : (Rec.taken (layL m)).kind = mark m := layL_zero m
  rcases mark_two m with h | h <;> omega
end Mast
end Go.Proofs.YtgnpohkippegpaaGreat

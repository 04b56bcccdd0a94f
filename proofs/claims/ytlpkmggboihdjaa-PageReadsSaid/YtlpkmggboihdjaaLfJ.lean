/-
  The document's answers for layer 7: low, Num, Right, Full.
-/
import Derived.Test.YtlpkmggboihdjaaLfC
import Derived.Test.YtlpkmggboihdjaaRecK
namespace Go.Proofs.Ytlpkmggboihdjaa
open Go.RowKit Word Crc Leaf
set_option linter.unusedVariables false

set_option maxRecDepth 100000 in
set_option maxHeartbeats 2000000 in
theorem rlow7_any (N : Int) (c : Nat) (w : World) (h0 : 0 ≤ N) (h1 : N < 9223372036854775808) (hc : c ≤ 8) :
    Calls Try.prog 23 #[.int .i64 N, .int .i64 c] w fun e w' => ∃ V, e = .returned V ∧ w'.ownsRow w.heap.size 5 1 V c (bs (le c N)) ∧ Below w.heap.size w w' := by
  go_enter Try.func23, Try.ntmps23
  go_wp2_with fail
  go_loopw [0, 5, 6] (fun n o i wr => ∃ k : Nat, k ≤ c ∧ i = .int .i64 k ∧ n = .int .i64 (N / 2 ^ (8 * k)) ∧ wr.ownsRow w.heap.size 5 1 o k (bs (le k N)) ∧ Below w.heap.size w wr) (fun _ _ i _ => c - (intOf i).toNat)
  case atStart => exact ⟨0, by omega, rfl, by simp, World.ownsRow_nil _ _ _ _, Below.refl _ _⟩
  case round =>
    obtain ⟨k, hk, rfl, rfl, hown, hbl⟩ := hrel
    by_cases hlt : k < c
    · have HP := Lib.hid (show bs (le (k + 1) N) = bs (le k N) ++ [.int .u8 (N / 2 ^ (8 * k) % 256)] by
        rw [le_snoc, bs_append _ [_]]; rfl)
      have HN := Lib.hid (show N / 2 ^ (8 * (k + 1)) = N / 2 ^ (8 * k) / 256 by
        rw [pow8_succ, Int.mul_comm, Int.ediv_ediv_of_nonneg (Int.le_of_lt (pow8_pos _))])
      have hy : 0 ≤ N / 2 ^ (8 * k) := Int.ediv_nonneg (by omega) (Int.le_of_lt (pow8_pos _))
      have hy2 : N / 2 ^ (8 * k) < 9223372036854775808 := Int.lt_of_le_of_lt (Int.ediv_le_self _ h0) h1
      generalize N / 2 ^ (8 * k) = y at *
      clear h0 h1
      go_wp2_with (at_builtin; go_loud (refine wpList_append_one _ rfl _ _ _ rfl w.heap.size 5 _ 1 elem8 u5 k _ rfl _ rfl hown rfl (by simp only [maxLen]; omega) (by omega) hbl.size ?_); intro v1 w1 hown1 hg1)
      go_roundw
      case rel => exact ⟨k + 1, by omega, by go_num, by rw [HN.out], by rw [HP.out]; exact hown1, hbl.grown hg1 hbl.size fun g hg => (hown.lt g hg).1⟩
      case measure => simp [intOf]; omega
    · obtain rfl : c = k := by omega
      go_wp2
      go_ret
      exact ⟨_, rfl, hown, hbl⟩

set_option maxRecDepth 100000 in
set_option maxHeartbeats 2000000 in
theorem rnum7_any (p : List Int) (at_ n : Nat) (w : World) (hl : p.length = 64) (hp : octets p) (h1 : 1 ≤ n) (h8 : n ≤ 8) (hf : at_ + n ≤ 64) :
    Calls Try.prog 29 #[.agg (bs p).toArray, .int .i64 at_, .int .i64 n] w fun e w' => e = .returned (.int .i64 (Rec.hi (get p at_ n))) ∧ Below w.heap.size w w' := by
  have HP := Lib.hid (And.intro hl hp)
  clear hl hp
  go_enter Try.func29, Try.ntmps29
  go_wp2_with (first
    | ((with_reducible refine wpList_pg_box (o := ⟨some 3, .box _ _, _, _, _, _⟩) rfl _ rfl p rfl ?_); intro w1 x0 hB1 hs1)
    | fail)
  go_loop [7, 8] (fun x i => ∃ k : Nat, k ≤ n ∧ i = .int .i64 ((at_ : Int) + (k : Int) - 1) ∧ x = .int .i64 (horn p at_ k n) ∧ horn p at_ k n ≤ 1099511627776) (fun _ i => (intOf i + 1 - at_).toNat)
  case atStart => exact ⟨n, by omega, by go_num, by rw [horn_all], by rw [horn_all]; decide⟩
  case round =>
    obtain ⟨k, hk, rfl, rfl, hb⟩ := hrel
    have hlo := (horn_bounds p at_ k n HP.out.2).1
    by_cases hlt : 0 < k
    · obtain ⟨j, rfl⟩ : ∃ j, k = j + 1 := ⟨k - 1, by omega⟩
      have HS := Lib.hid (horn_step p at_ j n (by omega) (by rw [HP.out.1]; exact hf))
      have hc := (x0.cell (at_ + j)).trans (bs_get (by rw [HP.out.1]; omega))
      have hz := octets_getD HP.out.2 (at_ + j)
      have HU := Lib.hid (horn_up p at_ j n HP.out.2 (by omega) (by rw [HP.out.1]; exact hf))
      have HZ := Lib.hid (horn_zero p at_ n)
      generalize hxj : horn p at_ j n = x' at HS HU
      have HXJ := Lib.hid hxj
      clear hxj
      generalize horn p at_ (j + 1) n = x at *
      generalize p.getD (at_ + j) 0 = c at *
      have hz0 := hz.1
      have hz1 := hz.2
      have hidx : (at_ : Int) + ((j + 1 : Nat) : Int) - 1 = ((at_ + j : Nat) : Int) := by omega
      rw [hidx]
      clear hz hidx x0
      by_cases hbig : 1099511627776 < x * 256 + c
      · have HH := Lib.hid (show Rec.hi (get p at_ n) = -1 by
          have h1 := HU.out
          rw [HS.out, HZ.out] at h1
          unfold Rec.hi
          rw [if_pos (by omega)])
        have HB := Lib.hid hB1
        clear HU HZ hB1 hs1
        go_wp2
        go_ret
        exact ⟨ret_int HH.out, HB.out⟩
      · have HB := Lib.hid hB1
        clear hB1 hs1 HU HZ
        go_wp2
        go_round
        case rel => exact ⟨j, by omega, by go_num, by rw [HXJ.out, HS.out], by rw [HXJ.out, HS.out]; omega⟩
        case measure => simp [intOf]; omega
    · obtain rfl : k = 0 := by omega
      have HH := Lib.hid (show Rec.hi (get p at_ n) = horn p at_ 0 n by
        rw [← horn_zero]
        unfold Rec.hi
        rw [if_neg (by omega)])
      have HB := Lib.hid hB1
      clear hB1 hs1 x0
      generalize horn p at_ 0 n = x at *
      go_wp2
      go_ret
      exact ⟨ret_int HH.out, HB.out⟩


set_option maxRecDepth 100000 in
set_option maxHeartbeats 2000000 in
theorem rright7_any (l : Lf) (w : World) (hi : In l) :
    Calls Try.prog 10 #[.agg (lcs l).toArray] w fun e w' => e = .returned (.bool (okB l)) ∧ Below w.heap.size w w' := by
  have hbx := Box.new w 24 (lcs l)
  have hB := (Below.refl w.heap.size w).alloc (Nat.le_refl _) (.cells (lcs l).toArray 24 (0, 0))
  obtain ⟨c0, c1⟩ := hbx.lf
  have HB := Lib.hid hB
  have HX := Lib.hid hbx
  have HI := Lib.hid hi
  have HF := Lib.hid (okB_eq l)
  unfold Rec.numB idxB at HF
  generalize hW : w.alloc (.cells (lcs l).toArray 24) = W at *
  have HW := Lib.hid hW
  clear hB hbx hi
  by_cases g0 : 1 ≤ l.gen
  case neg =>
    go_enter Try.func10, Try.ntmps10
    go_wp2
    go_ret
    exact ⟨ret_bool (by rw [HF.out]; simp; intros; omega), HB.out⟩
  by_cases g1 : l.gen ≤ 1099511627776
  case neg =>
    go_enter Try.func10, Try.ntmps10
    go_wp2
    go_ret
    exact ⟨ret_bool (by rw [HF.out]; simp; intros; omega), HB.out⟩
  by_cases q0 : 0 ≤ l.index
  case neg =>
    go_enter Try.func10, Try.ntmps10
    go_wp2
    go_ret
    exact ⟨ret_bool (by rw [HF.out]; simp; intros; omega), HB.out⟩
  by_cases q1 : l.index ≤ 4096
  case neg =>
    go_enter Try.func10, Try.ntmps10
    go_wp2
    go_ret
    exact ⟨ret_bool (by rw [HF.out]; simp; intros; omega), HB.out⟩
  have HF2 := Lib.hid (show okB l = narrowB l.places by rw [HF.out, decide_eq_true g0, decide_eq_true g1, decide_eq_true q0, decide_eq_true q1]; rfl)
  clear HF
  go_enter Try.func10, Try.ntmps10
  go_wp2
  go_loop [3] (fun i => ∃ k : Nat, k ≤ 10 ∧ i = .int .i64 k ∧ ∀ j, j < k → place (l.places.getD j 0)) (fun i => 10 - (intOf i).toNat)
  case atStart => exact ⟨0, by omega, rfl, fun j hj => by omega⟩
  case round =>
    obtain ⟨k, hk, rfl, hall⟩ := hrel
    by_cases hlt : k < 10
    · have hkl : k < l.places.length := by rw [HI.out]; exact hlt
      have cx := HX.out.lfPlace hkl
      have HA := Lib.hid hall
      clear hall c0 c1
      by_cases hpl : place (l.places.getD k 0)
      · have HPl := Lib.hid hpl
        have h0 := hpl.1
        have h1 := hpl.2
        clear hpl
        generalize hx : l.places.getD k 0 = x at cx HPl h0 h1
        have HXe := Lib.hid hx
        clear hx
        go_wp2
        go_round
        case rel =>
          refine ⟨k + 1, by omega, by go_num, fun j hj => ?_⟩
          by_cases hjk : j = k
          · subst hjk; rw [HXe.out]; exact HPl.out
          · exact HA.out j (by omega)
        case measure => simp [intOf]; omega
      · have HFa := Lib.hid (show okB l = false by
          rw [HF2.out]
          exact decide_eq_false fun h => hpl (h _ (getD_mem hkl)))
        generalize l.places.getD k 0 = x at cx hpl
        by_cases h0 : 0 ≤ x
        · have h1 : ¬ x ≤ 4294967295 := fun h => hpl ⟨h0, h⟩
          clear hpl
          go_wp2
          go_ret
          exact ⟨ret_bool HFa.out, HB.out⟩
        · clear hpl
          go_wp2
          go_ret
          exact ⟨ret_bool HFa.out, HB.out⟩
    · obtain rfl : k = 10 := by omega
      have HT := Lib.hid (show okB l = true by
        rw [HF2.out]
        exact decide_eq_true (narrow_upto fun j hj => hall j (by rw [← HI.out]; exact hj)))
      go_wp2
      go_ret
      exact ⟨ret_bool HT.out, HB.out⟩

/-- a slice's length -/
def vlen : Value → Nat
  | .slice _ n _ => n
  | _ => 0
/-- noughts up to the sum -/
def pad (zs : List Int) : List Int := zs ++ List.replicate (60 - zs.length) 0
theorem pad_length {zs : List Int} (h : zs.length ≤ 60) : (pad zs).length = 60 := by simp [pad]; omega
theorem pad_octets {zs : List Int} (h : octets zs) : octets (pad zs) := Rec.octets_append h fun z hz => by simp at hz; omega
/-- the answer's page while a text is filled up -/
def FuSt (base : Nat) (w W : World) : Prop := Box W w.heap.size 28 (bs pg0) ∧ Below base w W ∧ w.heap.size + 1 ≤ W.heap.size
theorem FuSt.on {base : Nat} {w W W' : World} (h : FuSt base w W) (hb : Below W.heap.size W W') (hbs : base ≤ W.heap.size) : FuSt base w W' := ⟨h.1.on hb, h.2.1.trans (hb.mono hbs), Nat.le_trans h.2.2 hb.size⟩

set_option maxRecDepth 100000 in
set_option maxHeartbeats 4000000 in
theorem rfull_any (base : Nat) (A : Option Addr) (n c : Nat) (zs : List Int) (w : World) (hn : n ≤ 60) (hz : octets zs) (hbs : base ≤ w.heap.size) (hown : w.ownsRow base 5 1 (.slice A n c) n (bs zs)) :
    Calls Try.prog 24 #[.slice A n c] w fun e w' => e = .returned (.agg (bs (sealed (pad zs))).toArray) ∧ Below base w w' := by
  obtain ⟨m, hm, hsz⟩ := big_size (P := Try.prog) (t := 28) (s := 64) (by kernel_rfl)
  have hm0 : ¬ m = 0 := by omega
  have hlen : zs.length = n := by have := hown.1; rw [bs_length] at this; omega
  have HM := Lib.hid hm
  have HZ := Lib.hid (And.intro hz hlen)
  have HO := Lib.hid hown
  have HN := Lib.hid (And.intro hn hbs)
  clear hm hz hlen hown hn hbs
  go_enter Try.func24, Try.ntmps24
  go_wp2_with (first
    | ((with_reducible refine wpList_pg_alloc (o := ⟨some 2, .alloc _, _, _, _, _⟩) rfl rfl ?_); intro w1 x0 hB1 hs1)
    | fail)
  have HL := Lib.hid (show FuSt base w w1 from ⟨x0, hB1.mono HN.out.2, by omega⟩)
  have HO1 := Lib.hid (own_below HO.out hB1)
  clear x0 hB1 hs1 HO
  try simp only [Act.put, List.setIfInBounds_toArray, List.set_cons_succ, List.set_cons_zero]
  go_loopw [0] (fun v wr => ∃ q : Nat, n ≤ q ∧ q ≤ 60 ∧ FuSt base w wr ∧ wr.ownsRow base 5 1 v q (bs (zs ++ List.replicate (q - n) 0))) (fun v _ => 60 - vlen v)
  case atStart => exact ⟨n, Nat.le_refl _, HN.out.1, HL.out, by simpa using HO1.out⟩
  case round =>
    clear HL HO1
    obtain ⟨q, hq0, hq1, L, hown⟩ := hrel
    obtain ⟨A1, c1, hv⟩ := own_slice hown
    subst hv
    have hsz : base ≤ wr.heap.size := Nat.le_trans HN.out.2 (Nat.le_trans (Nat.le_succ _) L.2.2)
    by_cases hlt : q < 60
    · have HT := Lib.hid (show bs (zs ++ List.replicate (q + 1 - n) 0) = bs (zs ++ List.replicate (q - n) 0) ++ [.int .u8 0] by
        rw [show q + 1 - n = (q - n) + 1 by omega, List.replicate_succ', ← List.append_assoc, bs_append _ [_]]
        rfl)
      have HLL := Lib.hid (And.intro L (show ∀ g, (Value.slice A1 q c1).ownBlock = some g → w.heap.size ≠ g from fun g hg => L.1.ne_row hown hg (by decide)))
      clear L
      go_wp2_with (at_builtin; go_loud (refine wpList_append_one _ rfl _ _ _ rfl base 5 _ 1 elem8 (.slice A1 q c1) q _ rfl _ rfl hown rfl (by simp only [maxLen]; omega) (by omega) hsz ?_); intro v1 w4 hown4 hg4)
      go_roundw
      case rel =>
        have h := HLL.out
        refine ⟨q + 1, by omega, by omega, ⟨h.1.1.same (hg4.block _ h.1.1.lt fun e => h.2 _ (by first | exact e | exact e.symm) rfl), h.1.2.1.grown hg4 hsz fun g hg => (hown.lt g hg).1, Nat.le_trans h.1.2.2 hg4.size⟩, by rw [HT.out]; exact hown4⟩
      case measure =>
        obtain ⟨A2, c2, hv2⟩ := own_slice hown4
        rw [hv2]
        show 60 - (q + 1) < 60 - q
        omega
    · obtain rfl : q = 60 := by omega
      have hP : zs ++ List.replicate (60 - n) 0 = pad zs := by unfold pad; rw [HZ.out.2]
      rw [hP] at hown
      clear hP
      have hpl := pad_length (zs := zs) (by rw [HZ.out.2]; exact HN.out.1)
      have hpo := pad_octets HZ.out.1
      have HSL := Lib.hid (show (sealed (pad zs)).length = 64 by rw [sealed_length, hpl])
      have hrd : Rd wr wr.heap.size A1 (bs (pad zs)) := Rd.own hown
      have HSe := Lib.hid (rseal_any A1 60 c1 (pad zs) wr (by decide) hpl hpo hrd)
      have HL := Lib.hid L
      have HBS := Lib.hid hsz
      clear L hown hrd hpl hpo hsz
      go_wp2_with fail
      refine HSe.out.mono ?_
      rintro e w5 ⟨A', c', rfl, hown5, hb5⟩
      have hown5 : w5.ownsRow wr.heap.size 5 1 (.slice A' 64 c') 64 (bs (sealed (pad zs))) := hown5
      have hL5 : FuSt base w w5 := HL.out.on hb5 HBS.out
      have HBS5 := Lib.hid (show base ≤ w5.heap.size from Nat.le_trans HBS.out hb5.size)
      have HWR := Lib.hid (show w.heap.size < wr.heap.size from HL.out.2.2)
      clear HL HSe hb5 HBS
      rw [show (60 : Nat) + 4 = 64 from rfl]
      obtain ⟨g, rfl, hgb, hgl⟩ := own_at hown5 (by omega)
      have HO := Lib.hid hown5
      have HL := Lib.hid hL5
      have HG := Lib.hid (And.intro hgb hgl)
      clear hown5 hL5 hgb hgl
      generalize hS : sealed (pad zs) = S at *
      have HS := Lib.hid hS
      clear hS
      generalize wr.heap.size = B3 at *
      go_wp2_with (first
        | ((with_reducible refine wpList_pg_alloc (o := ⟨some 3, .alloc _, _, _, _, _⟩) rfl rfl ?_); intro w16 x16 hB16 hs16)
        | fail)
      have HX0 := Lib.hid (And.intro (HL.out.on hB16 HBS5.out) (And.intro x16 (own_below HO.out hB16)))
      have HB5 := Lib.hid (show B3 ≤ g ∧ g < w5.heap.size ∧ w.heap.size < w5.heap.size ∧ base ≤ w5.heap.size from ⟨HG.out.1, HG.out.2, HL.out.2.2, HBS5.out⟩)
      clear x16 hB16 hs16 HL HO HG
      generalize w5.heap.size = b5 at *
      try simp only [Act.put, List.setIfInBounds_toArray, List.set_cons_succ, List.set_cons_zero]
      go_loopw [4] (fun i wr => ∃ n : Nat, n ≤ 64 ∧ i = .int .i64 n ∧ FuSt base w wr ∧ Box wr b5 28 (bs (mix S pg0 n)) ∧ wr.ownsRow B3 5 1 (.slice (some ⟨g, 0, none⟩) 64 c') 64 (bs S)) (fun i _ => 64 - (intOf i).toNat)
      case atStart => exact ⟨0, by omega, rfl, HX0.out.1, by rw [mix_zero]; exact HX0.out.2.1, HX0.out.2.2⟩
      case round =>
        clear HX0
        obtain ⟨n, hn1, rfl, L, hx, hown⟩ := hrel
        by_cases hlt : n < 64
        · have hml : (mix S pg0 n).length = 64 := (mix_length (by rw [HSL.out]; rfl) hn1).trans rfl
          have c1 := (hown.cellAt n (by omega)).trans (bs_get (by rw [HSL.out]; exact hlt))
          have c0 := (hx.cell n).trans (bs_get (by rw [hml]; exact hlt))
          have f0 := hx.frozen n
          have HX := Lib.hid (mix_set (S := S) (p := pg0) (n := n) (by rw [HSL.out]; rfl) hlt)
          generalize S.getD n 0 = s at c1 HX
          generalize (mix S pg0 n).getD n 0 = s0 at c0
          have HH := Lib.hid (And.intro L (And.intro hx hown))
          clear hml L hx hown
          go_wp2
          go_roundw
          case rel =>
            obtain ⟨L, hx, hown⟩ := HH.out
            have e : ∀ x, x ≠ b5 → (wr.setCell ⟨b5, n, none⟩ (.int .u8 s)).heap[x]? = wr.heap[x]? := fun x hx => heap_setCell_other _ _ _ _ hx
            have hG := HB5.out
            refine ⟨n + 1, by omega, by go_num, ⟨L.1.same (e _ (by omega)), L.2.1.setCell (by show base ≤ b5; omega) _, by have := L.2.2; simpa [World.setCell] using this⟩, ?_, ?_⟩
            · have := hx.set n (.int .u8 s)
              rw [← bs_set, HX.out] at this
              exact this
            · refine own_same hown fun g' hg' => e _ ?_
              injection hg' with hg'
              have : g = g' := hg'
              omega
          case measure => simp [intOf]; omega
        · obtain rfl : n = 64 := by omega
          rw [mix_all (S := S) (p := pg0) (n := 64) (by rw [HSL.out]; rfl) rfl] at hx
          have hld := big_load0 Try.prog b5 0 (bs S) m (by rw [bs_length, HSL.out, HM.out]) _ hx.range0
          have HX := Lib.hid L.1
          have HB := Lib.hid L.2
          clear L hown hx
          go_wp2_with (first
            | ((with_reducible refine wpList_pg_store (o := ⟨none, .store _ _ _, _, _, _, _⟩) rfl _ _ rfl w.heap.size S pg0 HSL.out rfl rfl rfl HX.out ?_); intro w9 hb9 hg9 _)
            | fail)
          have hldF := big_load0 Try.prog w.heap.size 0 (bs S) m (by rw [bs_length, HSL.out, HM.out]) _ hb9.range0
          generalize hR : bs S = R at hldF ⊢
          exact bodyPost_ret (v := .agg R.toArray) (by simp [results, Try.results24, go_sem, hsz, hldF]) rfl ⟨by rw [HS.out, hR], below_stored HB.out.1 hg9 (Nat.le_trans HN.out.2 (Nat.le_trans (Nat.le_succ _) HB.out.2)) HN.out.2⟩
end Go.Proofs.Ytlpkmggboihdjaa

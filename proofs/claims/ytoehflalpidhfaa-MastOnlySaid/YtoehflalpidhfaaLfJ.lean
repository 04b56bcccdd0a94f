/-
  The document's answers for layer 7: low, Num, Right, Full.
-/
import Derived.Test.YtoehflalpidhfaaLfC
import Derived.Test.YtoehflalpidhfaaRecK
namespace Go.Proofs.Ytoehflalpidhfaa
open Go.RowKit Word Crc Leaf
set_option linter.unusedVariables false

set_option maxRecDepth 100000 in
set_option maxHeartbeats 2000000 in
theorem rnum7_any (p : List Int) (at_ n : Nat) (w : World) (hl : p.length = 64) (hp : octets p) (h1 : 1 ≤ n) (h8 : n ≤ 8) (hf : at_ + n ≤ 64) :
    Calls Try.prog 37 #[.agg (bs p).toArray, .int .i64 at_, .int .i64 n] w fun e w' => e = .returned (.int .i64 (Rec.hi (get p at_ n))) ∧ Below w.heap.size w w' := by
  have HP := Lib.hid (And.intro hl hp)
  clear hl hp
  go_enter Try.func37, Try.ntmps37
  go_wp2_with (first
    | ((with_reducible refine wpList_pg_box (o := ⟨some 3, .box _ _, _, _, _, _⟩) rfl _ rfl p rfl ?_); intro w1 x0 hB1 hs1)
    | fail)
  go_loop [7, 8] (fun x i => ∃ k : Nat, k ≤ n ∧ i = .int .i64 ((at_ : Int) + (k : Int) - 1) ∧ x = .int .i64 (horn p at_ k n) ∧ horn p at_ k n ≤ 1099511627776) (fun _ i => (intOf i + 1 - at_).toNat)
  case atStart => exact ⟨n, by omega, by go_num, by rw [horn_all], by rw [horn_all]; decide⟩
  case round =>
    obtain ⟨k, hk, rfl, rfl, hb⟩ := hrel
    have hlo := (horn_bounds p at_ k n HP.out.2).1
    by_cases hlt : 0 < k
    · obtain ⟨j, rfl⟩ : ∃ j, k = j + 1 := ⟨k - 1, by omega⟩
      have HS := Lib.hid (horn_step p at_ j n (by omega) (by rw [HP.out.1]; exact hf))
      have hc := (x0.cell (at_ + j)).trans (bs_get (by rw [HP.out.1]; omega))
      have hz := octets_getD HP.out.2 (at_ + j)
      have HU := Lib.hid (horn_up p at_ j n HP.out.2 (by omega) (by rw [HP.out.1]; exact hf))
      have HZ := Lib.hid (horn_zero p at_ n)
      generalize hxj : horn p at_ j n = x' at HS HU
      have HXJ := Lib.hid hxj
      clear hxj
      generalize horn p at_ (j + 1) n = x at *
      generalize p.getD (at_ + j) 0 = c at *
      have hz0 := hz.1
      have hz1 := hz.2
      have hidx : (at_ : Int) + ((j + 1 : Nat) : Int) - 1 = ((at_ + j : Nat) : Int) := by omega
      rw [hidx]
      clear hz hidx x0
      by_cases hbig : 1099511627776 < x * 256 + c
      · have HH := Lib.hid (show Rec.hi (get p at_ n) = -1 by
          have h1 := HU.out
          rw [HS.out, HZ.out] at h1
          unfold Rec.hi
          rw [if_pos (by omega)])
        have HB := Lib.hid hB1
        clear HU HZ hB1 hs1
        go_wp2
        go_ret
        exact ⟨ret_int HH.out, HB.out⟩
      · have HB := Lib.hid hB1
        clear hB1 hs1 HU HZ
        go_wp2
        go_round
        case rel => exact ⟨j, by omega, by go_num, by rw [HXJ.out, HS.out], by rw [HXJ.out, HS.out]; omega⟩
        case measure => simp [intOf]; omega
    · obtain rfl : k = 0 := by omega
      have HH := Lib.hid (show Rec.hi (get p at_ n) = horn p at_ 0 n by
        rw [← horn_zero]
        unfold Rec.hi
        rw [if_neg (by omega)])
      have HB := Lib.hid hB1
      clear hB1 hs1 x0
      generalize horn p at_ 0 n = x at *
      go_wp2
      go_ret
      exact ⟨ret_int HH.out, HB.out⟩


/-- a slice's length -/
def vlen : Value → Nat
  | .slice _ n _ => n
  | _ => 0
/-- noughts up to the sum -/
def pad (zs : List Int) : List Int := zs ++ List.replicate (60 - zs.length) 0
theorem pad_length {zs : List Int} (h : zs.length ≤ 60) : (pad zs).length = 60 := by simp [pad]; omega
theorem pad_octets {zs : List Int} (h : octets zs) : octets (pad zs) := Rec.octets_append h fun z hz => by simp at hz; omega
/-- the answer's page while a text is filled up -/
def FuSt (base : Nat) (w W : World) : Prop := Box W w.heap.size 28 (bs pg0) ∧ Below base w W ∧ w.heap.size + 1 ≤ W.heap.size
theorem FuSt.on {base : Nat} {w W W' : World} (h : FuSt base w W) (hb : Below W.heap.size W W') (hbs : base ≤ W.heap.size) : FuSt base w W' := ⟨h.1.on hb, h.2.1.trans (hb.mono hbs), Nat.le_trans h.2.2 hb.size⟩

set_option maxRecDepth 100000 in
set_option maxHeartbeats 4000000 in
theorem rfull_any (base : Nat) (A : Option Addr) (n c : Nat) (zs : List Int) (w : World) (hn : n ≤ 60) (hz : octets zs) (hbs : base ≤ w.heap.size) (hown : w.ownsRow base 5 1 (.slice A n c) n (bs zs)) :
    Calls Try.prog 32 #[.slice A n c] w fun e w' => e = .returned (.agg (bs (sealed (pad zs))).toArray) ∧ Below base w w' := by
  obtain ⟨m, hm, hsz⟩ := big_size (P := Try.prog) (t := 28) (s := 64) (by kernel_rfl)
  have hm0 : ¬ m = 0 := by omega
  have hlen : zs.length = n := by have := hown.1; rw [bs_length] at this; omega
  have HM := Lib.hid hm
  have HZ := Lib.hid (And.intro hz hlen)
  have HO := Lib.hid hown
  have HN := Lib.hid (And.intro hn hbs)
  clear hm hz hlen hown hn hbs
  go_enter Try.func32, Try.ntmps32
  go_wp2_with (first
    | ((with_reducible refine wpList_pg_alloc (o := ⟨some 2, .alloc _, _, _, _, _⟩) rfl rfl ?_); intro w1 x0 hB1 hs1)
    | fail)
  have HL := Lib.hid (show FuSt base w w1 from ⟨x0, hB1.mono HN.out.2, by omega⟩)
  have HO1 := Lib.hid (own_below HO.out hB1)
  clear x0 hB1 hs1 HO
  try simp only [Act.put, List.setIfInBounds_toArray, List.set_cons_succ, List.set_cons_zero]
  go_loopw [0] (fun v wr => ∃ q : Nat, n ≤ q ∧ q ≤ 60 ∧ FuSt base w wr ∧ wr.ownsRow base 5 1 v q (bs (zs ++ List.replicate (q - n) 0))) (fun v _ => 60 - vlen v)
  case atStart => exact ⟨n, Nat.le_refl _, HN.out.1, HL.out, by simpa using HO1.out⟩
  case round =>
    clear HL HO1
    obtain ⟨q, hq0, hq1, L, hown⟩ := hrel
    obtain ⟨A1, c1, hv⟩ := own_slice hown
    subst hv
    have hsz : base ≤ wr.heap.size := Nat.le_trans HN.out.2 (Nat.le_trans (Nat.le_succ _) L.2.2)
    by_cases hlt : q < 60
    · have HT := Lib.hid (show bs (zs ++ List.replicate (q + 1 - n) 0) = bs (zs ++ List.replicate (q - n) 0) ++ [.int .u8 0] by
        rw [show q + 1 - n = (q - n) + 1 by omega, List.replicate_succ', ← List.append_assoc, bs_append _ [_]]
        rfl)
      have HLL := Lib.hid (And.intro L (show ∀ g, (Value.slice A1 q c1).ownBlock = some g → w.heap.size ≠ g from fun g hg => L.1.ne_row hown hg (by decide)))
      clear L
      go_wp2_with (at_builtin; go_loud (refine wpList_append_one _ rfl _ _ _ rfl base 5 _ 1 elem8 (.slice A1 q c1) q _ rfl _ rfl hown rfl (by simp only [maxLen]; omega) (by omega) hsz ?_); intro v1 w4 hown4 hg4)
      go_roundw
      case rel =>
        have h := HLL.out
        refine ⟨q + 1, by omega, by omega, ⟨h.1.1.same (hg4.block _ h.1.1.lt fun e => h.2 _ (by first | exact e | exact e.symm) rfl), h.1.2.1.grown hg4 hsz fun g hg => (hown.lt g hg).1, Nat.le_trans h.1.2.2 hg4.size⟩, by rw [HT.out]; exact hown4⟩
      case measure =>
        obtain ⟨A2, c2, hv2⟩ := own_slice hown4
        rw [hv2]
        show 60 - (q + 1) < 60 - q
        omega
    · obtain rfl : q = 60 := by omega
      have hP : zs ++ List.replicate (60 - n) 0 = pad zs := by unfold pad; rw [HZ.out.2]
      rw [hP] at hown
      clear hP
      have hpl := pad_length (zs := zs) (by rw [HZ.out.2]; exact HN.out.1)
      have hpo := pad_octets HZ.out.1
      have HSL := Lib.hid (show (sealed (pad zs)).length = 64 by rw [sealed_length, hpl])
      have hrd : Rd wr wr.heap.size A1 (bs (pad zs)) := Rd.own hown
      have HSe := Lib.hid (rseal_any A1 60 c1 (pad zs) wr (by decide) hpl hpo hrd)
      have HL := Lib.hid L
      have HBS := Lib.hid hsz
      clear L hown hrd hpl hpo hsz
      go_wp2_with fail
      refine HSe.out.mono ?_
      rintro e w5 ⟨A', c', rfl, hown5, hb5⟩
      have hown5 : w5.ownsRow wr.heap.size 5 1 (.slice A' 64 c') 64 (bs (sealed (pad zs))) := hown5
      have hL5 : FuSt base w w5 := HL.out.on hb5 HBS.out
      have HBS5 := Lib.hid (show base ≤ w5.heap.size from Nat.le_trans HBS.out hb5.size)
      have HWR := Lib.hid (show w.heap.size < wr.heap.size from HL.out.2.2)
      clear HL HSe hb5 HBS
      rw [show (60 : Nat) + 4 = 64 from rfl]
      obtain ⟨g, rfl, hgb, hgl⟩ := own_at hown5 (by omega)
      have HO := Lib.hid hown5
      have HL := Lib.hid hL5
      have HG := Lib.hid (And.intro hgb hgl)
      clear hown5 hL5 hgb hgl
      generalize hS : sealed (pad zs) = S at *
      have HS := Lib.hid hS
      clear hS
      generalize wr.heap.size = B3 at *
      go_wp2_with (first
        | ((with_reducible refine wpList_pg_alloc (o := ⟨some 3, .alloc _, _, _, _, _⟩) rfl rfl ?_); intro w16 x16 hB16 hs16)
        | fail)
      have HX0 := Lib.hid (And.intro (HL.out.on hB16 HBS5.out) (And.intro x16 (own_below HO.out hB16)))
      have HB5 := Lib.hid (show B3 ≤ g ∧ g < w5.heap.size ∧ w.heap.size < w5.heap.size ∧ base ≤ w5.heap.size from ⟨HG.out.1, HG.out.2, HL.out.2.2, HBS5.out⟩)
      clear x16 hB16 hs16 HL HO HG
      generalize w5.heap.size = b5 at *
      try simp only [Act.put, List.setIfInBounds_toArray, List.set_cons_succ, List.set_cons_zero]
      go_loopw [4] (fun i wr => ∃ n : Nat, n ≤ 64 ∧ i = .int .i64 n ∧ FuSt base w wr ∧ Box wr b5 28 (bs (mix S pg0 n)) ∧ wr.ownsRow B3 5 1 (.slice (some ⟨g, 0, none⟩) 64 c') 64 (bs S)) (fun i _ => 64 - (intOf i).toNat)
      case atStart => exact ⟨0, by omega, rfl, HX0.out.1, by rw [mix_zero]; exact HX0.out.2.1, HX0.out.2.2⟩
      case round =>
        clear HX0
        obtain ⟨n, hn1, rfl, L, hx, hown⟩ := hrel
        by_cases hlt : n < 64
        · have hml : (mix S pg0 n).length = 64 := (mix_length (by rw [HSL.out]; rfl) hn1).trans rfl
          have c1 := (hown.cellAt n (by omega)).trans (bs_get (by rw [HSL.out]; exact hlt))
          have c0 := (hx.cell n).trans (bs_get (by rw [hml]; exact hlt))
          have f0 := hx.frozen n
          have HX := Lib.hid (mix_set (S := S) (p := pg0) (n := n) (by rw [HSL.out]; rfl) hlt)
          generalize S.getD n 0 = s at c1 HX
          generalize (mix S pg0 n).getD n 0 = s0 at c0
          have HH := Lib.hid (And.intro L (And.intro hx hown))
          clear hml L hx hown
          go_wp2
          go_roundw
          case rel =>
            obtain ⟨L, hx, hown⟩ := HH.out
            have e : ∀ x, x ≠ b5 → (wr.setCell ⟨b5, n, none⟩ (.int .u8 s)).heap[x]? = wr.heap[x]? := fun x hx => heap_setCell_other _ _ _ _ hx
            have hG := HB5.out
            refine ⟨n + 1, by omega, by go_num, ⟨L.1.same (e _ (by omega)), L.2.1.setCell (by show base ≤ b5; omega) _, by have := L.2.2; simpa [World.setCell] using this⟩, ?_, ?_⟩
            · have := hx.set n (.int .u8 s)
              rw [← bs_set, HX.out] at this
              exact this
            · refine own_same hown fun g' hg' => e _ ?_
              injection hg' with hg'
              have : g = g' := hg'
              omega
          case measure => simp [intOf]; omega
        · obtain rfl : n = 64 := by omega
          rw [mix_all (S := S) (p := pg0) (n := 64) (by rw [HSL.out]; rfl) rfl] at hx
          have hld := big_load0 Try.prog b5 0 (bs S) m (by rw [bs_length, HSL.out, HM.out]) _ hx.range0
          have HX := Lib.hid L.1
          have HB := Lib.hid L.2
          clear L hown hx
          go_wp2_with (first
            | ((with_reducible refine wpList_pg_store (o := ⟨none, .store _ _ _, _, _, _, _⟩) rfl _ _ rfl w.heap.size S pg0 HSL.out rfl rfl rfl HX.out ?_); intro w9 hb9 hg9 _)
            | fail)
          have hldF := big_load0 Try.prog w.heap.size 0 (bs S) m (by rw [bs_length, HSL.out, HM.out]) _ hb9.range0
          generalize hR : bs S = R at hldF ⊢
          exact bodyPost_ret (v := .agg R.toArray) (by simp [results, Try.results32, go_sem, hsz, hldF]) rfl ⟨by rw [HS.out, hR], below_stored HB.out.1 hg9 (Nat.le_trans HN.out.2 (Nat.le_trans (Nat.le_succ _) HB.out.2)) HN.out.2⟩
end Go.Proofs.Ytoehflalpidhfaa

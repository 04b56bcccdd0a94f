/-
  RecK RecL
-/
import Derived.Test.YthgjlofebicpiaaMg13
/-
  The document's answers for layer 6: low, high, Summed.
-/
namespace Go.Proofs.Ythgjlofebicpiaa
open Go.RowKit Word Crc Rec
set_option linter.unusedVariables false

/-- a page in a variable of its own, its block counted -/
def OneSt' (w W : World) (p : List Int) : Prop := Box W w.heap.size 62 (bs p) ∧ Below w.heap.size w W ∧ w.heap.size + 1 ≤ W.heap.size
theorem OneSt'.on {w W W' : World} {p : List Int} (h : OneSt' w W p) (hb : Below W.heap.size W W') : OneSt' w W' p := ⟨h.1.on hb, bthen h.2.1 hb, Nat.le_trans h.2.2 hb.size⟩
theorem OneSt'.grew {w W W' : World} {p : List Int} (h : OneSt' w W p) (hb : Below (w.heap.size + 1) W W') : OneSt' w W' p := ⟨h.1.below hb (by omega), h.2.1.trans (hb.mono (by omega)), Nat.le_trans h.2.2 hb.size⟩

set_option maxRecDepth 100000 in
set_option maxHeartbeats 2000000 in
theorem rlow_any (N : Int) (c : Nat) (w : World) (h0 : 0 ≤ N) (h1 : N < 9223372036854775808) (hc : c ≤ 8) :
    Calls Try.prog 41 #[.int .i64 N, .int .i64 c] w fun e w' => ∃ V, e = .returned V ∧ w'.ownsRow w.heap.size 5 1 V c (bs (le c N)) ∧ Below w.heap.size w w' := by
  go_enter Try.func41, Try.ntmps41
  go_wp2_with fail
  go_loopw [0, 5, 6] (fun n o i wr => ∃ k : Nat, k ≤ c ∧ i = .int .i64 k ∧ n = .int .i64 (N / 2 ^ (8 * k)) ∧ wr.ownsRow w.heap.size 5 1 o k (bs (le k N)) ∧ Below w.heap.size w wr) (fun _ _ i _ => c - (intOf i).toNat)
  case atStart => exact ⟨0, by omega, rfl, by simp, World.ownsRow_nil _ _ _ _, Below.refl _ _⟩
  case round =>
    obtain ⟨k, hk, rfl, rfl, hown, hbl⟩ := hrel
    by_cases hlt : k < c
    · have HP := Lib.hid (show bs (le (k + 1) N) = bs (le k N) ++ [.int .u8 (N / 2 ^ (8 * k) % 256)] by
        rw [le_snoc, bs_append _ [_]]; rfl)
      have HN := Lib.hid (show N / 2 ^ (8 * (k + 1)) = N / 2 ^ (8 * k) / 256 by
        rw [pow8_succ, Int.mul_comm, Int.ediv_ediv_of_nonneg (Int.le_of_lt (pow8_pos _))])
      have hy : 0 ≤ N / 2 ^ (8 * k) := Int.ediv_nonneg (by omega) (Int.le_of_lt (pow8_pos _))
      have hy2 : N / 2 ^ (8 * k) < 9223372036854775808 := Int.lt_of_le_of_lt (Int.ediv_le_self _ h0) h1
      generalize N / 2 ^ (8 * k) = y at *
      clear h0 h1
      go_wp2_with (at_builtin; go_loud (refine wpList_append_one _ rfl _ _ _ rfl w.heap.size 5 _ 1 elem8 u5 k _ rfl _ rfl hown rfl (by simp only [maxLen]; omega) (by omega) hbl.size ?_); intro v1 w1 hown1 hg1)
      go_roundw
      case rel => exact ⟨k + 1, by omega, by go_num, by rw [HN.out], by rw [HP.out]; exact hown1, hbl.grown hg1 hbl.size fun g hg => (hown.lt g hg).1⟩
      case measure => simp [intOf]; omega
    · obtain rfl : c = k := by omega
      go_wp2
      go_ret
      exact ⟨_, rfl, hown, hbl⟩

theorem horn_zero (zs : List Int) (at_ n : Nat) : horn zs at_ 0 n = get zs at_ n := by simp [horn, Word.get]
theorem horn_all (zs : List Int) (at_ n : Nat) : horn zs at_ n n = 0 := by simp [horn, val]
theorem horn_up (zs : List Int) (at_ k n : Nat) (hb : octets zs) (hk : k ≤ n) (h : at_ + n ≤ zs.length) : horn zs at_ k n ≤ horn zs at_ 0 n := by
  induction k with
  | zero => exact Int.le_refl _
  | succ k ih =>
    refine Int.le_trans ?_ (ih (by omega))
    rw [horn_step zs at_ k n (by omega) h]
    have h1 := horn_bounds zs at_ (k + 1) n hb
    have h2 := octets_getD hb (at_ + k)
    omega

set_option maxRecDepth 100000 in
set_option maxHeartbeats 2000000 in
theorem rhigh_any (p : List Int) (at_ n : Nat) (w : World) (hl : p.length = 64) (hp : octets p) (h1 : 1 ≤ n) (h8 : n ≤ 8) (hf : at_ + n ≤ 64) :
    Calls Try.prog 57 #[.agg (bs p).toArray, .int .i64 at_, .int .i64 n] w fun e w' => e = .returned (.int .i64 (hi (get p at_ n))) ∧ Below w.heap.size w w' := by
  have HP := Lib.hid (And.intro hl hp)
  clear hl hp
  go_enter Try.func57, Try.ntmps57
  go_wp2_with (first
    | ((with_reducible refine wpList_pg_box (o := ⟨some 3, .box _ _, _, _, _, _⟩) rfl _ rfl p rfl ?_); intro w1 x0 hB1 hs1)
    | fail)
  go_loop [7, 8] (fun x i => ∃ k : Nat, k ≤ n ∧ i = .int .i64 ((at_ : Int) + (k : Int) - 1) ∧ x = .int .i64 (horn p at_ k n) ∧ horn p at_ k n ≤ 1099511627776) (fun _ i => (intOf i + 1 - at_).toNat)
  case atStart => exact ⟨n, by omega, by go_num, by rw [horn_all], by rw [horn_all]; decide⟩
  case round =>
    obtain ⟨k, hk, rfl, rfl, hb⟩ := hrel
    have hlo := (horn_bounds p at_ k n HP.out.2).1
    by_cases hlt : 0 < k
    · obtain ⟨j, rfl⟩ : ∃ j, k = j + 1 := ⟨k - 1, by omega⟩
      have HS := Lib.hid (horn_step p at_ j n (by omega) (by rw [HP.out.1]; exact hf))
      have hc := (x0.cell (at_ + j)).trans (bs_get (by rw [HP.out.1]; omega))
      have hz := octets_getD HP.out.2 (at_ + j)
      have HU := Lib.hid (horn_up p at_ j n HP.out.2 (by omega) (by rw [HP.out.1]; exact hf))
      have HZ := Lib.hid (horn_zero p at_ n)
      generalize hxj : horn p at_ j n = x' at HS HU
      have HXJ := Lib.hid hxj
      clear hxj
      generalize horn p at_ (j + 1) n = x at *
      generalize p.getD (at_ + j) 0 = c at *
      have hz0 := hz.1
      have hz1 := hz.2
      have hidx : (at_ : Int) + ((j + 1 : Nat) : Int) - 1 = ((at_ + j : Nat) : Int) := by omega
      rw [hidx]
      clear hz hidx x0
      by_cases hbig : 1099511627776 < x * 256 + c
      · have HH := Lib.hid (show hi (get p at_ n) = -1 by
          have h1 := HU.out
          rw [HS.out, HZ.out] at h1
          unfold hi
          rw [if_pos (by omega)])
        have HB := Lib.hid hB1
        clear HU HZ hB1 hs1
        go_wp2
        go_ret
        exact ⟨ret_int HH.out, HB.out⟩
      · have HB := Lib.hid hB1
        clear hB1 hs1 HU HZ
        go_wp2
        go_round
        case rel => exact ⟨j, by omega, by go_num, by rw [HXJ.out, HS.out], by rw [HXJ.out, HS.out]; omega⟩
        case measure => simp [intOf]; omega
    · obtain rfl : k = 0 := by omega
      have HH := Lib.hid (show hi (get p at_ n) = horn p at_ 0 n by
        rw [← horn_zero]
        unfold hi
        rw [if_neg (by omega)])
      have HB := Lib.hid hB1
      clear hB1 hs1 x0
      generalize horn p at_ 0 n = x at *
      go_wp2
      go_ret
      exact ⟨ret_int HH.out, HB.out⟩

theorem summed_all (S p : List Int) (hS : S.length = 64) (hp : p.length = 64) (h60 : S.take 60 = p.take 60) (h : ∀ j, 60 ≤ j → j < 64 → S.getD j 0 = p.getD j 0) : S = p := by
  apply List.ext_getElem (by omega)
  intro i h1 h2
  by_cases hi : i < 60
  · have e := congrArg (fun l => l[i]?) h60
    simp only [List.getElem?_take, hi, if_true] at e
    rw [List.getElem?_eq_getElem h1, List.getElem?_eq_getElem h2] at e
    injection e
  · have := h i (by omega) (by omega)
    simpa [List.getD_eq_getElem?_getD, List.getElem?_eq_getElem h1, List.getElem?_eq_getElem h2] using this
set_option maxRecDepth 100000 in
set_option maxHeartbeats 4000000 in
theorem rsummed_any (p : List Int) (w : World) (hl : p.length = 64) (hp : octets p) :
    Calls Try.prog 56 #[.agg (bs p).toArray] w fun e w' => e = .returned (.bool (rightB p)) ∧ Below w.heap.size w w' := by
  have HP := Lib.hid (And.intro hl hp)
  have HR := Lib.hid (rightB_eq p hp (by omega))
  rw [hl] at HR
  clear hl hp
  go_enter Try.func56, Try.ntmps56
  go_wp2_with (first
    | ((with_reducible refine wpList_pg_box (o := ⟨some 1, .box _ _, _, _, _, _⟩) rfl _ rfl p rfl ?_); intro w1 x0 hB1 hs1)
    | fail)
  have HL := Lib.hid (show OneSt' w w1 p from ⟨x0, hB1, by omega⟩)
  clear x0 hB1 hs1
  go_loopw [3, 4] (fun o i wr => ∃ k : Nat, k ≤ 60 ∧ i = .int .i64 k ∧ OneSt' w wr p ∧ wr.ownsRow (w.heap.size + 1) 5 1 o k (bs (p.take k))) (fun _ i _ => 60 - (intOf i).toNat)
  case atStart => exact ⟨0, by omega, rfl, HL.out, World.ownsRow_nil _ _ _ _⟩
  case round =>
    clear HL
    obtain ⟨k, hk, rfl, L, hown⟩ := hrel
    by_cases hlt : k < 60
    · have c0 := (L.1.cell k).trans (bs_get (by rw [HP.out.1]; omega))
      have HT := Lib.hid (show bs (p.take (k + 1)) = bs (p.take k) ++ [.int .u8 (p.getD k 0)] by
        rw [List.take_succ_eq_append_getElem (by rw [HP.out.1]; omega), bs_append]
        simp [bs, List.getD_eq_getElem?_getD, List.getElem?_eq_getElem (show k < p.length by rw [HP.out.1]; omega)])
      have hsz := L.2.2
      have HL := Lib.hid L
      clear L
      generalize p.getD k 0 = x at c0 HT
      go_wp2_with (at_builtin; go_loud (refine wpList_append_one _ rfl _ _ _ rfl (w.heap.size + 1) 5 _ 1 elem8 u3 k _ rfl _ rfl hown rfl (by simp only [maxLen]; omega) (by omega) hsz ?_); intro v1 w4 hown4 hg4)
      go_roundw
      case rel =>
        have hb4 : Below (w.heap.size + 1) wr w4 := (Below.refl _ _).grown hg4 hsz fun g hg => (hown.lt g hg).1
        exact ⟨k + 1, by omega, by go_num, HL.out.grew hb4, by rw [HT.out]; exact hown4⟩
      case measure => simp [intOf]; omega
    · obtain rfl : k = 60 := by omega
      have h60 : (p.take 60).length = 60 := by simp [HP.out.1]
      obtain ⟨A, c, hv⟩ := own_slice hown
      rw [hv] at hown ⊢
      clear hv
      have HL := Lib.hid L
      clear L
      go_wp2_with fail
      refine (rseal_any A 60 c (p.take 60) wr (by decide) h60 (fun z hz => HP.out.2 z (List.mem_of_mem_take hz)) (Rd.own hown)).mono ?_
      rintro e w4 ⟨A', c', rfl, hown4, hb4⟩
      have hown4 : w4.ownsRow wr.heap.size 5 1 (.slice A' 64 c') 64 (bs (sealed (p.take 60))) := hown4
      replace HL := Lib.hid (HL.out.on hb4)
      have HS64 := Lib.hid (show (sealed (p.take 60)).length = 64 by rw [sealed_length, h60])
      have H60 := Lib.hid (sealed_take (p.take 60) 60 h60)
      clear hown hb4 h60
      rw [show (60 : Nat) + 4 = 64 from rfl]
      obtain ⟨g, rfl, hgb, _⟩ := own_at hown4 (by omega)
      have HO := Lib.hid hown4
      clear hown4 hgb
      generalize wr.heap.size = B3 at *
      generalize sealed (p.take 60) = S at *
      go_wp2_with fail
      go_loopw [5] (fun i wr => ∃ n : Nat, 60 ≤ n ∧ n ≤ 64 ∧ i = .int .i64 n ∧ (∀ j, 60 ≤ j → j < n → S.getD j 0 = p.getD j 0) ∧ ∃ q, w4.drewN q = wr) (fun i _ => 64 - (intOf i).toNat)
      case atStart => exact ⟨60, by omega, by omega, rfl, fun j h1 h2 => by omega, 0, rfl⟩
      case round =>
        obtain ⟨n, hn0, hn1, rfl, hsame, q, rfl⟩ := hrel
        have HSame := Lib.hid hsame
        clear hsame
        by_cases hlt : n < 64
        · have c1 := (HO.out.cellAt n (by omega)).trans (bs_get (by rw [HS64.out]; exact hlt))
          have c0 := (HL.out.1.cell n).trans (bs_get (by rw [HP.out.1]; exact hlt))
          by_cases hxy : S.getD n 0 = p.getD n 0
          · have HX := Lib.hid hxy
            rw [hxy] at c1
            clear hxy
            generalize p.getD n 0 = x at c0 c1
            have hq : (x != x) = false := by simp
            go_wp2
            go_quiet (fail)
            go_wp2
            go_roundw
            case rel =>
              refine ⟨n + 1, by omega, by omega, by go_num, fun j h1 h2 => ?_, _, rfl⟩
              by_cases hj : j = n
              · subst hj; exact HX.out
              · exact HSame.out j h1 (by omega)
            case measure => simp [intOf]; omega
          · have HF := Lib.hid (show rightB p = false by
              rw [HR.out, beq_eq_false_iff_ne]
              intro h
              exact hxy (by rw [show S = p from h]))
            have hq : (S.getD n 0 != p.getD n 0) = true := by simp only [bne_iff_ne]; exact hxy
            generalize S.getD n 0 = x at c1 hq
            generalize p.getD n 0 = y at c0 hq
            go_wp2
            go_quiet (fail)
            go_wp2
            go_ret
            exact ⟨ret_bool HF.out, below_draws (below_draws HL.out.2.1 _) _⟩
        · obtain rfl : n = 64 := by omega
          have HF := Lib.hid (show rightB p = true by
            rw [HR.out, beq_iff_eq]
            exact summed_all S p HS64.out HP.out.1 H60.out HSame.out)
          go_wp2
          go_ret
          exact ⟨ret_bool HF.out, below_draws HL.out.2.1 _⟩
end Go.Proofs.Ythgjlofebicpiaa

/-
  The document's answers for layer 6: Lay.
-/
namespace Go.Proofs.Ythgjlofebicpiaa
open Go.RowKit Word Crc Rec
set_option linter.unusedVariables false

/-- a record in a variable of its own, the answer's page beside it -/
def LwSt (w W : World) (r : Rc) : Prop := Box W w.heap.size 50 (rcs r) ∧ Box W (w.heap.size + 1) 62 (bs pg0) ∧ Below w.heap.size w W ∧ w.heap.size + 2 ≤ W.heap.size
theorem LwSt.on {w W W' : World} {r : Rc} (h : LwSt w W r) (hb : Below W.heap.size W W') : LwSt w W' r := ⟨h.1.on hb, h.2.1.on hb, bthen h.2.2.1 hb, Nat.le_trans h.2.2.2 hb.size⟩
theorem LwSt.grew {w W W' : World} {r : Rc} (h : LwSt w W r) (hb : Below (w.heap.size + 2) W W') : LwSt w W' r := ⟨h.1.below hb (by omega), h.2.1.below hb (by omega), h.2.2.1.trans (hb.mono (by omega)), Nat.le_trans h.2.2.2 hb.size⟩
theorem LwSt.start {w w1 w2 : World} {r : Rc} (x0 : Box w1 w.heap.size 50 (rcs r)) (hB1 : Below w.heap.size w w1) (hs1 : w1.heap.size = w.heap.size + 1) (x1 : Box w2 w1.heap.size 62 (bs pg0)) (hB2 : Below w1.heap.size w1 w2) (hs2 : w2.heap.size = w1.heap.size + 1) : LwSt w w2 r := by
  rw [hs1] at x1
  exact ⟨x0.below hB2 (by omega), x1, bthen hB1 hB2, by omega⟩
theorem rcs_data (r : Rc) (k : Nat) : (rcs r)[5 + k]? = (bs r.data)[k]? := by
  rw [show 5 + k = k + 1 + 1 + 1 + 1 + 1 by omega]
  rfl

set_option maxRecDepth 100000 in
set_option maxHeartbeats 4000000 in
theorem rlay_any (r : Rc) (w : World) (hk : Ok r) (hi : In r) :
    Calls Try.prog 23 #[.agg (rcs r).toArray] w fun e w' => e = .returned (.agg (bs (layL r)).toArray) ∧ Below w.heap.size w w' := by
  obtain ⟨m, hm, hsz⟩ := big_size (P := Try.prog) (t := 62) (s := 64) (by kernel_rfl)
  have hm0 : ¬ m = 0 := by omega
  have HM := Lib.hid hm
  have HI := Lib.hid hi
  have HK := Lib.hid hk
  have k1 := hk.kind.1
  have k2 := hk.kind.2
  clear hm hi hk
  go_enter Try.func23, Try.ntmps23
  go_wp2_with (first
    | ((with_reducible refine wpList_rc_box (o := ⟨some 1, .box _ _, _, _, _, _⟩) rfl _ rfl r rfl ?_); intro w1 x0 hB1 hs1)
    | ((with_reducible refine wpList_pg_alloc (o := ⟨some 2, .alloc _, _, _, _, _⟩) rfl rfl ?_); intro w2 x1 hB2 hs2; have L := LwSt.start x0 hB1 hs1 x1 hB2 hs2; rw [hs1]; clear hs1 hs2 x0 x1 hB1 hB2; have c0 := L.1.rc.1; have L' := L.on ((Below.refl _ _).alloc (Nat.le_refl _) (.cells (bs [r.kind]).toArray 5 (0, 0))); have c1 : (w2.alloc (.cells #[.int .u8 r.kind] 5)).cell? ⟨w.heap.size, 1, none⟩ = some (.int .i64 r.epoch) := L'.1.rc.2.1)
    | fail)
  have hown := own_base0 (lit_own (w := w2) [r.kind] 1 rfl (by decide)) L.2.2.2
  clear L c0
  change (w2.alloc (.cells #[.int .u8 r.kind] 5)).ownsRow _ _ _ _ _ _ at hown
  change LwSt w (w2.alloc (.cells #[.int .u8 r.kind] 5)) r at L'
  generalize w2.heap.size = b3 at *
  generalize w2.alloc _ = w3 at *
  rename LwSt w w3 r => L
  -- epoch
  refine (rlow_any r.epoch 8 w3 (by have := HK.out.1; omega) (by have := HK.out.1; omega) (by omega)).mono ?_
  rintro e w4 ⟨V, rfl, hlow, hb⟩
  obtain ⟨A, cc, hv⟩ := own_slice hlow
  rw [hv] at hlow ⊢
  clear hv
  have hown' := own_below hown hb
  have hr : Rd w4 w4.heap.size A (bs (le 8 r.epoch)) := Rd.own hlow
  replace L := L.on hb
  have HB := L.2.2.2
  have HL := Lib.hid L
  clear hown hlow hb L c1
  rename w4.ownsRow _ _ _ _ _ _ => hown
  go_wp2_with (first
    | (at_builtin; go_loud (refine wpList_append_rd _ rfl _ _ _ rfl (w.heap.size + 2) 5 _ 1 1 elem8 (.slice (some ⟨b3, 0, none⟩) 1 1) 1 (bs ([r.kind])) rfl hown w4.heap.size A 8 cc (bs (le 8 r.epoch)) rfl (by rw [bs_length, le_length]) hr (bs_one _) (by unfold maxLen; omega) (by omega) HB ?_); intro v0 w5 hown0 hg0 _; have L := HL.out.grew ((Below.refl _ _).grown hg0 HB fun g hg => (hown.lt g hg).1); have c1 := L.1.rc.2.2.1)
    | fail)
  clear hg0 hown hr HL HB
  rename w5.ownsRow _ _ _ _ _ _ => hown
  rw [← bs_append] at hown
  -- seq
  refine (rlow_any r.seq 8 w5 (by have := HK.out.2.1; omega) (by have := HK.out.2.1; omega) (by omega)).mono ?_
  rintro e w6 ⟨V, rfl, hlow, hb⟩
  obtain ⟨A, cc, hv⟩ := own_slice hlow
  rw [hv] at hlow ⊢
  clear hv
  have hown' := own_below hown hb
  have hr : Rd w6 w6.heap.size A (bs (le 8 r.seq)) := Rd.own hlow
  replace L := L.on hb
  have HB := L.2.2.2
  have HL := Lib.hid L
  clear hown hlow hb L c1
  rename w6.ownsRow _ _ _ _ _ _ => hown
  go_wp2_with (first
    | (at_builtin; go_loud (refine wpList_append_rd _ rfl _ _ _ rfl (w.heap.size + 2) 5 _ 1 1 elem8 v0 9 (bs ([r.kind] ++ le 8 r.epoch)) rfl hown w6.heap.size A 8 cc (bs (le 8 r.seq)) rfl (by rw [bs_length, le_length]) hr (bs_one _) (by unfold maxLen; omega) (by omega) HB ?_); intro v1 w7 hown1 hg1 _; have L := HL.out.grew ((Below.refl _ _).grown hg1 HB fun g hg => (hown.lt g hg).1); have c1 := L.1.rc.2.2.2.1)
    | fail)
  clear hg1 hown hr HL HB
  rename w7.ownsRow _ _ _ _ _ _ => hown
  rw [← bs_append] at hown
  -- block
  refine (rlow_any r.block 4 w7 (by have := HK.out.block; omega) (by have := HK.out.block; omega) (by omega)).mono ?_
  rintro e w8 ⟨V, rfl, hlow, hb⟩
  obtain ⟨A, cc, hv⟩ := own_slice hlow
  rw [hv] at hlow ⊢
  clear hv
  have hown' := own_below hown hb
  have hr : Rd w8 w8.heap.size A (bs (le 4 r.block)) := Rd.own hlow
  replace L := L.on hb
  have HB := L.2.2.2
  have HL := Lib.hid L
  clear hown hlow hb L c1
  rename w8.ownsRow _ _ _ _ _ _ => hown
  go_wp2_with (first
    | (at_builtin; go_loud (refine wpList_append_rd _ rfl _ _ _ rfl (w.heap.size + 2) 5 _ 1 1 elem8 v1 17 (bs ([r.kind] ++ le 8 r.epoch ++ le 8 r.seq)) rfl hown w8.heap.size A 4 cc (bs (le 4 r.block)) rfl (by rw [bs_length, le_length]) hr (bs_one _) (by unfold maxLen; omega) (by omega) HB ?_); intro v2 w9 hown2 hg2 _; have L := HL.out.grew ((Below.refl _ _).grown hg2 HB fun g hg => (hown.lt g hg).1); have c1 := L.1.rc.2.2.2.2)
    | fail)
  clear hg2 hown hr HL HB
  rename w9.ownsRow _ _ _ _ _ _ => hown
  rw [← bs_append] at hown
  -- count
  refine (rlow_any r.count 4 w9 (by have := HK.out.count; omega) (by have := HK.out.count; omega) (by omega)).mono ?_
  rintro e w10 ⟨V, rfl, hlow, hb⟩
  obtain ⟨A, cc, hv⟩ := own_slice hlow
  rw [hv] at hlow ⊢
  clear hv
  have hown' := own_below hown hb
  have hr : Rd w10 w10.heap.size A (bs (le 4 r.count)) := Rd.own hlow
  replace L := L.on hb
  have HB := L.2.2.2
  have HL := Lib.hid L
  clear hown hlow hb L c1
  rename w10.ownsRow _ _ _ _ _ _ => hown
  go_wp2_with (first
    | (at_builtin; go_loud (refine wpList_append_rd _ rfl _ _ _ rfl (w.heap.size + 2) 5 _ 1 1 elem8 v2 21 (bs ([r.kind] ++ le 8 r.epoch ++ le 8 r.seq ++ le 4 r.block)) rfl hown w10.heap.size A 4 cc (bs (le 4 r.count)) rfl (by rw [bs_length, le_length]) hr (bs_one _) (by unfold maxLen; omega) (by omega) HB ?_); intro v3 w11 hown3 hg3 _; have L := HL.out.grew ((Below.refl _ _).grown hg3 HB fun g hg => (hown.lt g hg).1))
    | fail)
  clear hg3 hown hr HL HB
  rename w11.ownsRow _ _ _ _ _ _ => hown
  rw [← bs_append] at hown
  have HF := Lib.hid (show front r = ([r.kind] ++ le 8 r.epoch ++ le 8 r.seq ++ le 4 r.block ++ le 4 r.count) ++ r.data ++ [0, 0, 0] by
    unfold front
    simp only [List.append_assoc])
  have HIn0 := Lib.hid (And.intro L hown)
  clear L hown
  generalize [r.kind] ++ le 8 r.epoch ++ le 8 r.seq ++ le 4 r.block ++ le 4 r.count = zs at *
  -- the data
  go_loopw [3, 4] (fun o i wr => ∃ k : Nat, k ≤ 32 ∧ i = .int .i64 k ∧ LwSt w wr r ∧ wr.ownsRow (w.heap.size + 2) 5 1 o (25 + k) (bs (zs ++ r.data.take k))) (fun _ i _ => 32 - (intOf i).toNat)
  case atStart => exact ⟨0, by omega, rfl, HIn0.out.1, by simpa using HIn0.out.2⟩
  case round =>
    clear HIn0
    obtain ⟨k, hk, rfl, L, hown⟩ := hrel
    have hsz := L.2.2.2
    by_cases hlt : k < 32
    · have c0 := (L.1.cell (5 + k)).trans ((rcs_data r k).trans (bs_get (by rw [HI.out.1]; exact hlt)))
      have HT := Lib.hid (show bs (zs ++ r.data.take (k + 1)) = bs (zs ++ r.data.take k) ++ [.int .u8 (r.data.getD k 0)] by
        rw [List.take_succ_eq_append_getElem (by rw [HI.out.1]; exact hlt), ← List.append_assoc, bs_append _ [_]]
        simp [bs, List.getD_eq_getElem?_getD, List.getElem?_eq_getElem (show k < r.data.length by rw [HI.out.1]; exact hlt)])
      have HL := Lib.hid L
      clear L
      generalize r.data.getD k 0 = x at c0 HT
      go_wp2_with (at_builtin; go_loud (refine wpList_append_one _ rfl _ _ _ rfl (w.heap.size + 2) 5 _ 1 elem8 u3 (25 + k) _ rfl _ rfl hown rfl (by simp only [maxLen]; omega) (by omega) hsz ?_); intro v13 w13 hown13 hg13)
      go_roundw
      case rel =>
        have hb13 : Below (w.heap.size + 2) wr w13 := (Below.refl _ _).grown hg13 hsz fun g hg => (hown.lt g hg).1
        exact ⟨k + 1, by omega, by go_num, HL.out.grew hb13, by rw [HT.out]; exact hown13⟩
      case measure => simp [intOf]; omega
    · obtain rfl : k = 32 := by omega
      rw [List.take_of_length_le (by rw [HI.out.1]; exact Nat.le_refl _)] at hown
      have HL := Lib.hid L
      clear L
      -- the noughts
      go_wp2_with (first
        | (at_builtin; go_loud (refine wpList_append_rd _ rfl _ _ _ rfl (w.heap.size + 2) 5 _ 1 1 elem8 u3 57 (bs (zs ++ r.data)) rfl (hown.alloc _) (wr.alloc (.cells (bs [0, 0, 0]).toArray 5)).heap.size (some ⟨wr.heap.size, 0, none⟩) 3 3 (bs [0, 0, 0]) rfl rfl (Rd.own (lit_own [0, 0, 0] 3 rfl (by decide))) (bs_one _) (by unfold maxLen; omega) (by omega) (by simp; omega) ?_); intro v14 w14 hown14 hg14 _)
        | fail)
      have hb14 : Below (w.heap.size + 2) wr w14 := ((Below.refl _ _).alloc hsz _).grown hg14 (by simp; omega) fun g hg => (hown.lt g hg).1
      have hown14 : w14.ownsRow (w.heap.size + 2) 5 1 v14 60 (bs (front r)) := by rw [HF.out, bs_append _ [0, 0, 0]]; exact hown14
      replace HL := Lib.hid (HL.out.grew hb14)
      clear hown hg14 hb14 hsz
      obtain ⟨A, c, hv⟩ := own_slice hown14
      rw [hv] at hown14 ⊢
      clear hv
      -- the sum
      refine (rseal_any A 60 c (front r) w14 (by decide) (front_length r HI.out.1) (front_octets HK.out HI.out.2) (Rd.own hown14)).mono ?_
      rintro e w15 ⟨A', c', rfl, hown15, hb15⟩
      have hown15 : w15.ownsRow w14.heap.size 5 1 (.slice A' 64 c') 64 (bs (layL r)) := hown15
      replace HL := Lib.hid (HL.out.on hb15)
      have HSL := Lib.hid (layL_length r HI.out.1)
      rw [show (60 : Nat) + 4 = 64 from rfl]
      obtain ⟨g, rfl, hgb, hgl⟩ := own_at hown15 (by omega)
      have HO := Lib.hid hown15
      clear hown14 hb15 hown15 hgb HF
      generalize hS : layL r = S at *
      have HS := Lib.hid hS
      clear hS
      go_wp2_with (first
        | ((with_reducible refine wpList_pg_alloc (o := ⟨some 5, .alloc _, _, _, _, _⟩) rfl rfl ?_); intro w16 x16 hB16 hs16)
        | fail)
      have HL16 := Lib.hid (And.intro (HL.out.on hB16) (And.intro x16 (And.intro (own_below HO.out hB16) (And.intro HL.out.2.2.2 (show w15.heap.size < w16.heap.size by omega)))))
      clear x16 hB16 hs16 HL HO
      generalize w15.heap.size = b5 at *
      obtain ⟨hL0, hx0, ho0, hb5, hb5s⟩ := HL16.out
      have hgb5 : g < b5 := hgl
      clear HL16
      have HG := Lib.hid (And.intro hb5 hgb5)
      have HX0 := Lib.hid (And.intro hL0 (And.intro hx0 ho0))
      clear hL0 hx0 ho0 hb5s hgl hb5 hgb5
      go_loopw [6] (fun i wr => ∃ n : Nat, n ≤ 64 ∧ i = .int .i64 n ∧ LwSt w wr r ∧ Box wr b5 62 (bs (mix S pg0 n)) ∧ wr.ownsRow w14.heap.size 5 1 (.slice (some ⟨g, 0, none⟩) 64 c') 64 (bs S)) (fun i _ => 64 - (intOf i).toNat)
      case atStart => exact ⟨0, by omega, rfl, HX0.out.1, by rw [mix_zero]; exact HX0.out.2.1, HX0.out.2.2⟩
      case round =>
        clear HX0
        obtain ⟨n, hn1, rfl, L, hx, hown⟩ := hrel
        by_cases hlt : n < 64
        · have hml : (mix S pg0 n).length = 64 := (mix_length (by rw [HSL.out]; rfl) hn1).trans rfl
          have c1 := (hown.cellAt n (by omega)).trans (bs_get (by rw [HSL.out]; exact hlt))
          have c0 := (hx.cell n).trans (bs_get (by rw [hml]; exact hlt))
          have f0 := hx.frozen n
          have HX := Lib.hid (mix_set (S := S) (p := pg0) (n := n) (by rw [HSL.out]; rfl) hlt)
          generalize S.getD n 0 = s at c1 HX
          generalize (mix S pg0 n).getD n 0 = s0 at c0
          have HH := Lib.hid (And.intro L (And.intro hx hown))
          clear hml L hx hown
          go_wp2
          go_roundw
          case rel =>
            obtain ⟨L, hx, hown⟩ := HH.out
            have e : ∀ x, x ≠ b5 → (wr.setCell ⟨b5, n, none⟩ (.int .u8 s)).heap[x]? = wr.heap[x]? := fun x hx => heap_setCell_other _ _ _ _ hx
            have hG := HG.out
            refine ⟨n + 1, by omega, by go_num, ⟨L.1.same (e _ (by omega)), L.2.1.same (e _ (by omega)), L.2.2.1.setCell (by show w.heap.size ≤ b5; omega) _, by have := L.2.2.2; simpa [World.setCell] using this⟩, ?_, ?_⟩
            · have := hx.set n (.int .u8 s)
              rw [← bs_set, HX.out] at this
              exact this
            · refine own_same hown fun g' hg' => e _ ?_
              injection hg' with hg'
              have : g = g' := hg'
              omega
          case measure => simp [intOf]; omega
        · obtain rfl : n = 64 := by omega
          rw [mix_all (S := S) (p := pg0) (n := 64) (by rw [HSL.out]; rfl) rfl] at hx
          have hld := big_load0 Try.prog b5 0 (bs S) m (by rw [bs_length, HSL.out, HM.out]) _ hx.range0
          have HX := Lib.hid L.2.1
          have HB := Lib.hid L.2.2
          clear L hown hx
          go_wp2_with (first
            | ((with_reducible refine wpList_pg_store (o := ⟨none, .store _ _ _, _, _, _, _⟩) rfl _ _ rfl (w.heap.size + 1) S pg0 HSL.out rfl rfl rfl HX.out ?_); intro w9 hb9 hg9 _)
            | fail)
          have hldF := big_load0 Try.prog (w.heap.size + 1) 0 (bs S) m (by rw [bs_length, HSL.out, HM.out]) _ hb9.range0
          generalize hR : bs S = R at hldF ⊢
          exact bodyPost_ret (v := .agg R.toArray) (by simp [results, Try.results23, go_sem, hsz, hldF]) rfl ⟨by rw [HS.out, hR], below_stored HB.out.1 hg9 HB.out.1.size (by omega)⟩
end Go.Proofs.Ythgjlofebicpiaa

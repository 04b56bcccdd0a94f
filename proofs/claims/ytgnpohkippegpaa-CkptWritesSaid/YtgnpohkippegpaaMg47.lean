/-
  LfL MsJ
-/
import Derived.Test.YtgnpohkippegpaaMg30
import Derived.Test.YtgnpohkippegpaaMg26
import Derived.Test.YtgnpohkippegpaaMg31
import Derived.Test.YtgnpohkippegpaaMg20
/-
  The document's answers for layer 7: Lay.
-/
namespace Go.Proofs.Ytgnpohkippegpaa
open Go.RowKit Word Crc Leaf
set_option linter.unusedVariables false

theorem TwoBx.grew {w W W' : World} {T U : TypeId} {cs ds : List Value} (h : TwoBx w W T cs U ds) (hb : Below (w.heap.size + 2) W W') : TwoBx w W' T cs U ds := ⟨h.1.below hb (by omega), h.2.1.below hb (by omega), h.2.2.1.trans (hb.mono (by omega)), Nat.le_trans h.2.2.2 hb.size⟩
theorem layL_pad (l : Lf) (h : In l) : sealed (pad ([128] ++ le 8 l.gen ++ le 4 l.index ++ flat l.places)) = layL l := by
  unfold In at h
  have e : pad ([128] ++ le 8 l.gen ++ le 4 l.index ++ flat l.places) = front l := by
    have hl : (([128] : List Int) ++ le 8 l.gen ++ le 4 l.index ++ flat l.places).length = 53 := by simp [le_length, flat_length, h]
    unfold pad front
    rw [hl]
    simp only [List.append_assoc]
  rw [e]
  rfl

set_option maxRecDepth 100000 in
set_option maxHeartbeats 4000000 in
theorem rlay7_any (l : Lf) (w : World) (hk : Ok l) (hi : In l) :
    Calls Try.prog 39 #[.agg (lcs l).toArray] w fun e w' => e = .returned (.agg (bs (layL l)).toArray) ∧ Below w.heap.size w w' := by
  obtain ⟨m, hm, hsz⟩ := big_size (P := Try.prog) (t := 45) (s := 64) (by kernel_rfl)
  have hm0 : ¬ m = 0 := by omega
  have HM := Lib.hid hm
  have HI := Lib.hid hi
  have HK := Lib.hid hk
  clear hm hi hk
  go_enter Try.func39, Try.ntmps39
  go_wp2_with (first
    | ((with_reducible refine wpList_lf_box (o := ⟨some 1, .box _ _, _, _, _, _⟩) rfl _ rfl l rfl ?_); intro w1 x0 hB1 hs1)
    | ((with_reducible refine wpList_pg_alloc (o := ⟨some 2, .alloc _, _, _, _, _⟩) rfl rfl ?_); intro w2 x1 hB2 hs2; have L := TwoBx.start x0 hB1 hs1 x1 hB2 hs2; rw [hs1]; clear hs1 hs2 x0 x1 hB1 hB2; have L' := L.on ((Below.refl _ _).alloc (Nat.le_refl _) (.cells (bs [128]).toArray 5 (0, 0))); have c1 : (w2.alloc (.cells #[.int .u8 128] 5)).cell? ⟨w.heap.size, 0, none⟩ = some (.int .i64 l.gen) := L'.1.lf.1)
    | fail)
  have hown := own_base0 (lit_own (w := w2) [128] 1 rfl (by decide)) L.2.2.2
  clear L
  change (w2.alloc (.cells #[.int .u8 128] 5)).ownsRow _ _ _ _ _ _ at hown
  change TwoBx w (w2.alloc (.cells #[.int .u8 128] 5)) _ _ _ _ at L'
  generalize w2.heap.size = b3 at *
  generalize w2.alloc _ = w3 at *
  rename TwoBx w w3 _ _ _ _ => L
  -- gen
  refine (rlow7_any l.gen 8 w3 (by have := HK.out.1; omega) (by have := HK.out.1; omega) (by omega)).mono ?_
  rintro e w4 ⟨V, rfl, hlow, hb⟩
  obtain ⟨A, cc, hv⟩ := own_slice hlow
  rw [hv] at hlow ⊢
  clear hv
  have hown' := own_below hown hb
  have hr : Rd w4 w4.heap.size A (bs (le 8 l.gen)) := Rd.own hlow
  replace L := L.on hb
  have HB := L.2.2.2
  have HL := Lib.hid L
  clear hown hlow hb L c1
  rename w4.ownsRow _ _ _ _ _ _ => hown
  go_wp2_with (first
    | (at_builtin; go_loud (refine wpList_append_rd _ rfl _ _ _ rfl (w.heap.size + 2) 5 _ 1 1 elem8 (.slice (some ⟨b3, 0, none⟩) 1 1) 1 (bs ([128])) rfl hown w4.heap.size A 8 cc (bs (le 8 l.gen)) rfl (by rw [bs_length, le_length]) hr (bs_one _) (by unfold maxLen; omega) (by omega) HB ?_); intro v0 w5 hown0 hg0 _; have L := HL.out.grew ((Below.refl _ _).grown hg0 HB fun g hg => (hown.lt g hg).1); have c1 := L.1.lf.2)
    | fail)
  clear hg0 hown hr HL HB
  rename w5.ownsRow _ _ _ _ _ _ => hown
  rw [← bs_append] at hown
  -- index
  refine (rlow7_any l.index 4 w5 (by have := HK.out.2.1; omega) (by have := HK.out.2.1; omega) (by omega)).mono ?_
  rintro e w6 ⟨V, rfl, hlow, hb⟩
  obtain ⟨A, cc, hv⟩ := own_slice hlow
  rw [hv] at hlow ⊢
  clear hv
  have hown' := own_below hown hb
  have hr : Rd w6 w6.heap.size A (bs (le 4 l.index)) := Rd.own hlow
  replace L := L.on hb
  have HB := L.2.2.2
  have HL := Lib.hid L
  clear hown hlow hb L c1
  rename w6.ownsRow _ _ _ _ _ _ => hown
  go_wp2_with (first
    | (at_builtin; go_loud (refine wpList_append_rd _ rfl _ _ _ rfl (w.heap.size + 2) 5 _ 1 1 elem8 v0 9 (bs ([128] ++ le 8 l.gen)) rfl hown w6.heap.size A 4 cc (bs (le 4 l.index)) rfl (by rw [bs_length, le_length]) hr (bs_one _) (by unfold maxLen; omega) (by omega) HB ?_); intro v1 w7 hown1 hg1 _; have L := HL.out.grew ((Below.refl _ _).grown hg1 HB fun g hg => (hown.lt g hg).1))
    | fail)
  clear hg1 hown hr HL HB
  rename w7.ownsRow _ _ _ _ _ _ => hown
  rw [← bs_append] at hown
  have HP := Lib.hid (layL_pad l HI.out)
  have HZl := Lib.hid (show (([128] : List Int) ++ le 8 l.gen ++ le 4 l.index).length = 13 by simp [le_length])
  have HZo := Lib.hid (show octets (([128] : List Int) ++ le 8 l.gen ++ le 4 l.index ++ flat l.places) from Rec.octets_append (Rec.octets_append (Rec.octets_append (fun z hz => by simp at hz; omega) (le_bytes _ _)) (le_bytes _ _)) (flat_octets _))
  have HIn0 := Lib.hid (And.intro L hown)
  clear L hown
  generalize [128] ++ le 8 l.gen ++ le 4 l.index = zs at *
  -- the places
  go_loopw [3, 4] (fun o i wr => ∃ k : Nat, k ≤ 10 ∧ i = .int .i64 k ∧ TwoBx w wr 87 (lcs l) 45 (bs pg0) ∧ wr.ownsRow (w.heap.size + 2) 5 1 o (13 + 4 * k) (bs (zs ++ flat (l.places.take k)))) (fun _ i _ => 10 - (intOf i).toNat)
  case atStart => exact ⟨0, by omega, rfl, HIn0.out.1, by simpa [flat] using HIn0.out.2⟩
  case round =>
    clear HIn0
    obtain ⟨k, hk, rfl, L, hown⟩ := hrel
    by_cases hlt : k < 10
    · have hkl : k < l.places.length := by rw [HI.out]; exact hlt
      have cx := L.1.lfPlace hkl
      have hpl := HK.out.2.2 _ (getD_mem hkl)
      have HT := Lib.hid (show bs (zs ++ flat (l.places.take (k + 1))) = bs (zs ++ flat (l.places.take k)) ++ bs (le 4 (l.places.getD k 0)) by
        rw [flat_snoc _ _ hkl, ← List.append_assoc, bs_append _ (le 4 _)])
      have HX := Lib.hid (And.intro L hown)
      clear L hown hkl
      generalize l.places.getD k 0 = x at cx hpl HT
      have HPl := Lib.hid hpl
      clear hpl
      go_wp2_with fail
      refine (rlow7_any x 4 wr (by have := HPl.out; omega) (by have := HPl.out; omega) (by omega)).mono ?_
      rintro e w8 ⟨V, rfl, hlow, hb⟩
      obtain ⟨A, cc, hv⟩ := own_slice hlow
      rw [hv] at hlow ⊢
      clear hv cx
      have hown := own_below HX.out.2 hb
      have hr : Rd w8 w8.heap.size A (bs (le 4 x)) := Rd.own hlow
      have L := HX.out.1.on hb
      have HB := L.2.2.2
      have HL := Lib.hid L
      clear hlow hb L HX
      go_wp2_with (first
        | (at_builtin; go_loud (refine wpList_append_rd _ rfl _ _ _ rfl (w.heap.size + 2) 5 _ 1 1 elem8 u3 (13 + 4 * k) (bs (zs ++ flat (l.places.take k))) rfl hown w8.heap.size A 4 cc (bs (le 4 x)) rfl (by rw [bs_length, le_length]) hr (bs_one _) (by unfold maxLen; omega) (by omega) HB ?_); intro v2 w9 hown2 hg2 _; have HL2 := Lib.hid (HL.out.grew ((Below.refl _ _).grown hg2 HB fun g hg => (hown.lt g hg).1)); have HO2 := Lib.hid hown2)
        | fail)
      go_roundw
      case rel => exact ⟨k + 1, by omega, by go_num, HL2.out, by rw [HT.out, show 13 + 4 * (k + 1) = 13 + 4 * k + 4 by omega]; exact HO2.out⟩
      case measure => simp [intOf]; omega
    · obtain rfl : k = 10 := by omega
      rw [List.take_of_length_le (by rw [HI.out]; exact Nat.le_refl _)] at hown
      obtain ⟨A, cc, hv⟩ := own_slice hown
      rw [hv] at hown ⊢
      clear hv
      have HL := Lib.hid L
      have HF := Lib.hid (rfull_any (w.heap.size + 2) A 53 cc (zs ++ flat l.places) wr (by omega) HZo.out L.2.2.2 hown)
      rw [HP.out] at HF
      clear L hown
      rw [show 13 + 4 * 10 = 53 from rfl]
      go_wp2_with fail
      refine HF.out.mono ?_
      rintro e w8 ⟨rfl, hb8⟩
      have HL8 := Lib.hid (HL.out.grew hb8)
      have HX8 := Lib.hid HL8.out.2.1
      have HSL := Lib.hid (layL_length l HI.out)
      clear HL HF hb8
      go_wp2_with (first
        | ((with_reducible refine wpList_pg_store (o := ⟨none, .store _ _ _, _, _, _, _⟩) rfl _ _ rfl (w.heap.size + 1) (layL l) pg0 HSL.out rfl rfl rfl HX8.out ?_); intro w9 hb9 hg9 _)
        | fail)
      have hldF := big_load0 Try.prog (w.heap.size + 1) 0 (bs (layL l)) m (by rw [bs_length, HSL.out, HM.out]) _ hb9.range0
      generalize hR : bs (layL l) = R at hldF ⊢
      exact bodyPost_ret (v := .agg R.toArray) (by simp [results, Try.results39, go_sem, hsz, hldF]) rfl ⟨rfl, below_stored HL8.out.2.2.1 hg9 HL8.out.2.2.1.size (by omega)⟩
end Go.Proofs.Ytgnpohkippegpaa

/-
  The document's answers for layer 8: fits, Right, low, Lay, LayGeom.
-/
namespace Go.Proofs.Ytgnpohkippegpaa
open Go.RowKit Word Crc Mast
set_option linter.unusedVariables false

def fitB (n l : Int) : Bool := decide (l ≤ n) && decide (n ≤ 1099511627776)
theorem rfits8_any (n l : Int) (w : World) : Calls Try.prog 35 #[.int .i64 n, .int .i64 l] w fun e w' => e = .returned (.bool (fitB n l)) ∧ w = w' := by
  by_cases h : l ≤ n
  · by_cases h2 : n ≤ 1099511627776
    · have HN := Lib.hid (show fitB n l = true by unfold fitB; rw [decide_eq_true h, decide_eq_true h2]; rfl)
      go_enter Try.func35, Try.ntmps35
      go_wp2
      go_ret
      exact ⟨ret_bool HN.out, rfl⟩
    · have HN := Lib.hid (show fitB n l = false by unfold fitB; rw [decide_eq_true h, decide_eq_false h2]; rfl)
      go_enter Try.func35, Try.ntmps35
      go_wp2
      go_ret
      exact ⟨ret_bool HN.out, rfl⟩
  · have HN := Lib.hid (show fitB n l = false by unfold fitB; rw [decide_eq_false h]; rfl)
    go_enter Try.func35, Try.ntmps35
    go_wp2
    go_ret
    exact ⟨ret_bool HN.out, rfl⟩

set_option maxRecDepth 100000 in
set_option maxHeartbeats 4000000 in
theorem rright8_any (m : Mst) (w : World) :
    Calls Try.prog 12 #[.agg (mcs m).toArray] w fun e w' => e = .returned (.bool (okB m)) ∧ Below w.heap.size w w' := by
  have hbx := Box.new w 26 (mcs m)
  have hB := (Below.refl w.heap.size w).alloc (Nat.le_refl _) (.cells (mcs m).toArray 26 (0, 0))
  obtain ⟨c0, c1, c2, c3, c4, c5⟩ := hbx.ms
  have HB := Lib.hid hB
  have HF := Lib.hid (okB_eq m)
  generalize hW : w.alloc (.cells (mcs m).toArray 26) = W at *
  have HW := Lib.hid hW
  generalize okB m = ob at HF ⊢
  clear hB hbx
  obtain ⟨foot, gen, epoch, seq, pages, sum⟩ := m
  simp only at *
  have HE := Lib.hid fun w' => rfits8_any gen 1 w'
  have HS := Lib.hid fun w' => rfits8_any epoch 1 w'
  have HQ := Lib.hid fun w' => rfits8_any seq 0 w'
  change Hid (ob = (fitB gen 1 && fitB epoch 1 && (fitB seq 0 && (decide (0 ≤ pages) && decide (pages ≤ 4096)) && (foot || sum == 0)))) at HF
  generalize fitB gen 1 = ng at *
  generalize fitB epoch 1 = ne at *
  generalize fitB seq 0 = nq at *
  cases ng with
  | false =>
    go_enter Try.func12, Try.ntmps12
    go_wp2_with (go_at_call 35; (first | (with_reducible refine (HE.out _).mono ?_) | (with_reducible refine (HS.out _).mono ?_) | (with_reducible refine (HQ.out _).mono ?_)); rintro e w' ⟨rfl, rfl⟩)
    all_goals go_ret
    all_goals exact ⟨ret_bool (by rw [HF.out]; clear HW hW c0 c1 c2 c3 c4 c5; first | (simp; done) | (simp [*]; done) | (simp [*]; omega) | simp_all), HB.out⟩
  | true =>
    cases ne with
    | false =>
      go_enter Try.func12, Try.ntmps12
      go_wp2_with (go_at_call 35; (first | (with_reducible refine (HE.out _).mono ?_) | (with_reducible refine (HS.out _).mono ?_) | (with_reducible refine (HQ.out _).mono ?_)); rintro e w' ⟨rfl, rfl⟩)
      all_goals go_ret
      all_goals exact ⟨ret_bool (by rw [HF.out]; clear HW hW c0 c1 c2 c3 c4 c5; first | (simp; done) | (simp [*]; done) | (simp [*]; omega) | simp_all), HB.out⟩
    | true =>
      cases nq with
      | false =>
        go_enter Try.func12, Try.ntmps12
        go_wp2_with (go_at_call 35; (first | (with_reducible refine (HE.out _).mono ?_) | (with_reducible refine (HS.out _).mono ?_) | (with_reducible refine (HQ.out _).mono ?_)); rintro e w' ⟨rfl, rfl⟩)
        all_goals go_ret
        all_goals exact ⟨ret_bool (by rw [HF.out]; clear HW hW c0 c1 c2 c3 c4 c5; first | (simp; done) | (simp [*]; done) | (simp [*]; omega) | simp_all), HB.out⟩
      | true =>
        have h4 : (pages < 0) ∨ (0 ≤ pages ∧ 4096 < pages) ∨ (0 ≤ pages ∧ pages ≤ 4096) := by omega
        rcases h4 with h4 | ⟨h4, h4'⟩ | ⟨h4, h4'⟩ <;> cases foot <;>
        · go_enter Try.func12, Try.ntmps12
          go_wp2_with (go_at_call 35; (first | (with_reducible refine (HE.out _).mono ?_) | (with_reducible refine (HS.out _).mono ?_) | (with_reducible refine (HQ.out _).mono ?_)); rintro e w' ⟨rfl, rfl⟩)
          all_goals go_ret
          all_goals exact ⟨ret_bool (by rw [HF.out]; clear HW hW c0 c1 c2 c3 c4 c5; first | (simp; done) | (simp [*]; done) | (simp [*]; omega) | simp_all), HB.out⟩

set_option maxRecDepth 100000 in
set_option maxHeartbeats 2000000 in
theorem rlow8_any (N : Int) (c : Nat) (w : World) (h0 : 0 ≤ N) (h1 : N < 9223372036854775808) (hc : c ≤ 8) :
    Calls Try.prog 68 #[.int .i64 N, .int .i64 c] w fun e w' => ∃ V, e = .returned V ∧ w'.ownsRow w.heap.size 5 1 V c (bs (le c N)) ∧ Below w.heap.size w w' := by
  go_enter Try.func68, Try.ntmps68
  go_wp2_with fail
  go_loopw [0, 5, 6] (fun n o i wr => ∃ k : Nat, k ≤ c ∧ i = .int .i64 k ∧ n = .int .i64 (N / 2 ^ (8 * k)) ∧ wr.ownsRow w.heap.size 5 1 o k (bs (le k N)) ∧ Below w.heap.size w wr) (fun _ _ i _ => c - (intOf i).toNat)
  case atStart => exact ⟨0, by omega, rfl, by simp, World.ownsRow_nil _ _ _ _, Below.refl _ _⟩
  case round =>
    obtain ⟨k, hk, rfl, rfl, hown, hbl⟩ := hrel
    by_cases hlt : k < c
    · have HP := Lib.hid (show bs (le (k + 1) N) = bs (le k N) ++ [.int .u8 (N / 2 ^ (8 * k) % 256)] by
        rw [le_snoc, bs_append _ [_]]; rfl)
      have HN := Lib.hid (show N / 2 ^ (8 * (k + 1)) = N / 2 ^ (8 * k) / 256 by
        rw [pow8_succ, Int.mul_comm, Int.ediv_ediv_of_nonneg (Int.le_of_lt (pow8_pos _))])
      have hy : 0 ≤ N / 2 ^ (8 * k) := Int.ediv_nonneg (by omega) (Int.le_of_lt (pow8_pos _))
      have hy2 : N / 2 ^ (8 * k) < 9223372036854775808 := Int.lt_of_le_of_lt (Int.ediv_le_self _ h0) h1
      generalize N / 2 ^ (8 * k) = y at *
      clear h0 h1
      go_wp2_with (at_builtin; go_loud (refine wpList_append_one _ rfl _ _ _ rfl w.heap.size 5 _ 1 elem8 u5 k _ rfl _ rfl hown rfl (by simp only [maxLen]; omega) (by omega) hbl.size ?_); intro v1 w1 hown1 hg1)
      go_roundw
      case rel => exact ⟨k + 1, by omega, by go_num, by rw [HN.out], by rw [HP.out]; exact hown1, hbl.grown hg1 hbl.size fun g hg => (hown.lt g hg).1⟩
      case measure => simp [intOf]; omega
    · obtain rfl : c = k := by omega
      go_wp2
      go_ret
      exact ⟨_, rfl, hown, hbl⟩

theorem zs_snoc (b : Int) (xs : List (Nat × Int)) (n : Nat) (x : Int) : ([b] ++ enc xs) ++ le n x = [b] ++ enc (xs ++ [(n, x)]) := by
  rw [enc_append]
  simp only [enc, List.flatMap_cons, List.flatMap_nil, List.append_nil, List.append_assoc]

set_option maxRecDepth 100000 in
set_option maxHeartbeats 4000000 in
theorem rlay8_any (m : Mst) (w : World) (hk : Ok m) (hi : In m) :
    Calls Try.prog 37 #[.agg (mcs m).toArray] w fun e w' => e = .returned (.agg (bs (layL m)).toArray) ∧ Below w.heap.size w w' := by
  obtain ⟨m6, hm, hsz⟩ := big_size (P := Try.prog) (t := 45) (s := 64) (by kernel_rfl)
  have hm0 : ¬ m6 = 0 := by omega
  have HM := Lib.hid hm
  have HK := Lib.hid hk
  clear hm hk
  have HI := Lib.hid (show 0 ≤ m.sum ∧ m.sum < 4294967296 from hi)
  have hs0 := HI.out.1
  have hs1' := HI.out.2
  clear hi
  cases hf : m.foot with
  | true =>
    have HMK := Lib.hid (show Mast.mark m = 130 by unfold Mast.mark; rw [if_pos hf])
    go_enter Try.func37, Try.ntmps37
    go_wp2_with (first
      | ((with_reducible refine wpList_ms_box (o := ⟨some 1, .box _ _, _, _, _, _⟩) rfl _ rfl m rfl ?_); intro w1 x0 hB1 hs1)
      | ((with_reducible refine wpList_pg_alloc (o := ⟨some 2, .alloc _, _, _, _, _⟩) rfl rfl ?_); intro w2 x1 hB2 hs2; have L := TwoBx.start x0 hB1 hs1 x1 hB2 hs2; rw [hs1]; clear hs1 hs2 x0 x1 hB1 hB2; have cf : (w2.alloc (.cells #[.int .u8 129] 5)).cell? ⟨w.heap.size, 0, none⟩ = some (.bool m.foot) := (L.on ((Below.refl _ _).alloc (Nat.le_refl _) (.cells (bs [129]).toArray 5 (0, 0)))).1.ms.1; rw [hf] at cf; have L' := L.on ((Below.refl _ _).alloc (Nat.le_refl _) (.cells (bs [130]).toArray 5 (0, 0))); have c1 : (w2.alloc (.cells #[.int .u8 130] 5)).cell? ⟨w.heap.size, 1, none⟩ = some (.int .i64 m.gen) := L'.1.ms.2.1)
      | fail)
    clear cf hf
    have hown := own_base0 (lit_own (w := w2) [130] 1 rfl (by decide)) L.2.2.2
    clear L
    change (w2.alloc (.cells #[.int .u8 130] 5)).ownsRow _ _ _ _ _ _ at hown
    change TwoBx w (w2.alloc (.cells #[.int .u8 130] 5)) _ _ _ _ at L'
    generalize w2.heap.size = b3 at *
    generalize w2.alloc _ = w3 at *
    rename TwoBx w w3 _ _ _ _ => L
    -- gen
    refine (rlow8_any m.gen 8 w3 (by have := HK.out.1; omega) (by have := HK.out.1; omega) (by omega)).mono ?_
    rintro e wa0 ⟨V, rfl, hlow, hb⟩
    obtain ⟨A, cc, hv⟩ := own_slice hlow
    rw [hv] at hlow ⊢
    clear hv
    have hown' := own_below hown hb
    have hr : Rd wa0 wa0.heap.size A (bs (le 8 m.gen)) := Rd.own hlow
    replace L := L.on hb
    have HBB := L.2.2.2
    have HL := Lib.hid L
    clear hown hlow hb L c1
    rename World.ownsRow wa0 _ _ _ _ _ _ => hown
    go_wp2_with (first
      | (at_builtin; go_loud (refine wpList_append_rd _ rfl _ _ _ rfl (w.heap.size + 2) 5 _ 1 1 elem8 (.slice (some ⟨b3, 0, none⟩) 1 1) 1 (bs ([130] ++ enc [])) rfl hown wa0.heap.size A 8 cc (bs (le 8 m.gen)) rfl (by rw [bs_length, le_length]) hr (bs_one _) (by unfold maxLen; omega) (by omega) HBB ?_); intro v0 wb0 hown0 hg0 hs0; clear hs0; have L := HL.out.grew ((Below.refl _ _).grown hg0 HBB fun g hg => (hown.lt g hg).1); have c1 := L.1.ms.2.2.1)
      | fail)
    clear hg0 hown hr HL HBB
    rename World.ownsRow wb0 _ _ _ _ _ _ => hown
    rw [← bs_append, (zs_snoc 130 [] 8 m.gen : _ = [130] ++ enc [(8, m.gen)])] at hown
    -- epoch
    refine (rlow8_any m.epoch 8 wb0 (by have := HK.out.2.1; omega) (by have := HK.out.2.1; omega) (by omega)).mono ?_
    rintro e wa1 ⟨V, rfl, hlow, hb⟩
    obtain ⟨A, cc, hv⟩ := own_slice hlow
    rw [hv] at hlow ⊢
    clear hv
    have hown' := own_below hown hb
    have hr : Rd wa1 wa1.heap.size A (bs (le 8 m.epoch)) := Rd.own hlow
    replace L := L.on hb
    have HBB := L.2.2.2
    have HL := Lib.hid L
    clear hown hlow hb L c1
    rename World.ownsRow wa1 _ _ _ _ _ _ => hown
    go_wp2_with (first
      | (at_builtin; go_loud (refine wpList_append_rd _ rfl _ _ _ rfl (w.heap.size + 2) 5 _ 1 1 elem8 v0 9 (bs ([130] ++ enc [(8, m.gen)])) rfl hown wa1.heap.size A 8 cc (bs (le 8 m.epoch)) rfl (by rw [bs_length, le_length]) hr (bs_one _) (by unfold maxLen; omega) (by omega) HBB ?_); intro v1 wb1 hown0 hg0 hs0; clear hs0; have L := HL.out.grew ((Below.refl _ _).grown hg0 HBB fun g hg => (hown.lt g hg).1); have c1 := L.1.ms.2.2.2.1)
      | fail)
    clear hg0 hown hr HL HBB
    rename World.ownsRow wb1 _ _ _ _ _ _ => hown
    rw [← bs_append, (zs_snoc 130 [(8, m.gen)] 8 m.epoch : _ = [130] ++ enc [(8, m.gen), (8, m.epoch)])] at hown
    -- seq
    refine (rlow8_any m.seq 8 wb1 (by have := HK.out.2.2.1; omega) (by have := HK.out.2.2.1; omega) (by omega)).mono ?_
    rintro e wa2 ⟨V, rfl, hlow, hb⟩
    obtain ⟨A, cc, hv⟩ := own_slice hlow
    rw [hv] at hlow ⊢
    clear hv
    have hown' := own_below hown hb
    have hr : Rd wa2 wa2.heap.size A (bs (le 8 m.seq)) := Rd.own hlow
    replace L := L.on hb
    have HBB := L.2.2.2
    have HL := Lib.hid L
    clear hown hlow hb L c1
    rename World.ownsRow wa2 _ _ _ _ _ _ => hown
    go_wp2_with (first
      | (at_builtin; go_loud (refine wpList_append_rd _ rfl _ _ _ rfl (w.heap.size + 2) 5 _ 1 1 elem8 v1 17 (bs ([130] ++ enc [(8, m.gen), (8, m.epoch)])) rfl hown wa2.heap.size A 8 cc (bs (le 8 m.seq)) rfl (by rw [bs_length, le_length]) hr (bs_one _) (by unfold maxLen; omega) (by omega) HBB ?_); intro v2 wb2 hown0 hg0 hs0; clear hs0; have L := HL.out.grew ((Below.refl _ _).grown hg0 HBB fun g hg => (hown.lt g hg).1); have c1 := L.1.ms.2.2.2.2.1)
      | fail)
    clear hg0 hown hr HL HBB
    rename World.ownsRow wb2 _ _ _ _ _ _ => hown
    rw [← bs_append, (zs_snoc 130 [(8, m.gen), (8, m.epoch)] 8 m.seq : _ = [130] ++ enc [(8, m.gen), (8, m.epoch), (8, m.seq)])] at hown
    -- pages
    refine (rlow8_any m.pages 4 wb2 (by have := HK.out.2.2.2.1; omega) (by have := HK.out.2.2.2.1; omega) (by omega)).mono ?_
    rintro e wa3 ⟨V, rfl, hlow, hb⟩
    obtain ⟨A, cc, hv⟩ := own_slice hlow
    rw [hv] at hlow ⊢
    clear hv
    have hown' := own_below hown hb
    have hr : Rd wa3 wa3.heap.size A (bs (le 4 m.pages)) := Rd.own hlow
    replace L := L.on hb
    have HBB := L.2.2.2
    have HL := Lib.hid L
    clear hown hlow hb L c1
    rename World.ownsRow wa3 _ _ _ _ _ _ => hown
    go_wp2_with (first
      | (at_builtin; go_loud (refine wpList_append_rd _ rfl _ _ _ rfl (w.heap.size + 2) 5 _ 1 1 elem8 v2 25 (bs ([130] ++ enc [(8, m.gen), (8, m.epoch), (8, m.seq)])) rfl hown wa3.heap.size A 4 cc (bs (le 4 m.pages)) rfl (by rw [bs_length, le_length]) hr (bs_one _) (by unfold maxLen; omega) (by omega) HBB ?_); intro v3 wb3 hown0 hg0 hs0; clear hs0; have L := HL.out.grew ((Below.refl _ _).grown hg0 HBB fun g hg => (hown.lt g hg).1); have c1 := L.1.ms.2.2.2.2.2)
      | fail)
    clear hg0 hown hr HL HBB
    rename World.ownsRow wb3 _ _ _ _ _ _ => hown
    rw [← bs_append, (zs_snoc 130 [(8, m.gen), (8, m.epoch), (8, m.seq)] 4 m.pages : _ = [130] ++ enc [(8, m.gen), (8, m.epoch), (8, m.seq), (4, m.pages)])] at hown
    -- sum
    refine (rlow8_any m.sum 4 wb3 (by have := HI.out; omega) (by have := HI.out; omega) (by omega)).mono ?_
    rintro e wa4 ⟨V, rfl, hlow, hb⟩
    obtain ⟨A, cc, hv⟩ := own_slice hlow
    rw [hv] at hlow ⊢
    clear hv
    have hown' := own_below hown hb
    have hr : Rd wa4 wa4.heap.size A (bs (le 4 m.sum)) := Rd.own hlow
    replace L := L.on hb
    have HBB := L.2.2.2
    have HL := Lib.hid L
    clear hown hlow hb L c1
    rename World.ownsRow wa4 _ _ _ _ _ _ => hown
    go_wp2_with (first
      | (at_builtin; go_loud (refine wpList_append_rd _ rfl _ _ _ rfl (w.heap.size + 2) 5 _ 1 1 elem8 v3 29 (bs ([130] ++ enc [(8, m.gen), (8, m.epoch), (8, m.seq), (4, m.pages)])) rfl hown wa4.heap.size A 4 cc (bs (le 4 m.sum)) rfl (by rw [bs_length, le_length]) hr (bs_one _) (by unfold maxLen; omega) (by omega) HBB ?_); intro v4 wb4 hown0 hg0 hs0; clear hs0; have L := HL.out.grew ((Below.refl _ _).grown hg0 HBB fun g hg => (hown.lt g hg).1))
      | fail)
    clear hg0 hown hr HL HBB
    rename World.ownsRow wb4 _ _ _ _ _ _ => hown
    rw [← bs_append, (zs_snoc 130 [(8, m.gen), (8, m.epoch), (8, m.seq), (4, m.pages)] 4 m.sum : _ = [130] ++ enc [(8, m.gen), (8, m.epoch), (8, m.seq), (4, m.pages), (4, m.sum)])] at hown
    -- filled up
    obtain ⟨A, cc, hv⟩ := own_slice hown
    rw [hv] at hown ⊢
    clear hv
    have HL := Lib.hid L
    have HF := Lib.hid (rfull_any (w.heap.size + 2) A 33 cc ([130] ++ enc [(8, m.gen), (8, m.epoch), (8, m.seq), (4, m.pages), (4, m.sum)]) wb4 (by omega) (Rec.octets_append (fun z hz => by simp at hz; omega) (enc_octets _)) L.2.2.2 hown)
    rw [show sealed (pad ([130] ++ enc [(8, m.gen), (8, m.epoch), (8, m.seq), (4, m.pages), (4, m.sum)])) = layL m from (by unfold layL secL front fs; rw [HMK.out])] at HF
    have HSL := Lib.hid (layL_length m)
    clear L hown
    go_wp2_with fail
    refine HF.out.mono ?_
    rintro e w8 ⟨rfl, hb8⟩
    have HL8 := Lib.hid (HL.out.grew hb8)
    have HX8 := Lib.hid HL8.out.2.1
    clear HL HF hb8
    generalize hR : layL m = R at *
    go_wp2_with (first
      | ((with_reducible refine wpList_pg_store (o := ⟨none, .store _ _ _, _, _, _, _⟩) rfl _ _ rfl (w.heap.size + 1) R pg0 HSL.out rfl rfl rfl HX8.out ?_); intro w9 hb9 hg9 _)
      | fail)
    have hldF := big_load0 Try.prog (w.heap.size + 1) 0 (bs R) m6 (by rw [bs_length, HSL.out, HM.out]) _ hb9.range0
    generalize hS : bs R = Rb at hldF ⊢
    exact bodyPost_ret (v := .agg Rb.toArray) (by simp [results, Try.results37, go_sem, hsz, hldF]) rfl ⟨by rw [hR, hS], below_stored HL8.out.2.2.1 hg9 HL8.out.2.2.1.size (by omega)⟩
  | false =>
    have HMK := Lib.hid (show Mast.mark m = 129 by unfold Mast.mark; rw [if_neg (by rw [hf]; simp)])
    go_enter Try.func37, Try.ntmps37
    go_wp2_with (first
      | ((with_reducible refine wpList_ms_box (o := ⟨some 1, .box _ _, _, _, _, _⟩) rfl _ rfl m rfl ?_); intro w1 x0 hB1 hs1)
      | ((with_reducible refine wpList_pg_alloc (o := ⟨some 2, .alloc _, _, _, _, _⟩) rfl rfl ?_); intro w2 x1 hB2 hs2; have L := TwoBx.start x0 hB1 hs1 x1 hB2 hs2; rw [hs1]; clear hs1 hs2 x0 x1 hB1 hB2; have cf : (w2.alloc (.cells #[.int .u8 129] 5)).cell? ⟨w.heap.size, 0, none⟩ = some (.bool m.foot) := (L.on ((Below.refl _ _).alloc (Nat.le_refl _) (.cells (bs [129]).toArray 5 (0, 0)))).1.ms.1; rw [hf] at cf; have L' := L.on ((Below.refl _ _).alloc (Nat.le_refl _) (.cells (bs [129]).toArray 5 (0, 0))); have c1 : (w2.alloc (.cells #[.int .u8 129] 5)).cell? ⟨w.heap.size, 1, none⟩ = some (.int .i64 m.gen) := L'.1.ms.2.1)
      | fail)
    clear cf hf
    have hown := own_base0 (lit_own (w := w2) [129] 1 rfl (by decide)) L.2.2.2
    clear L
    change (w2.alloc (.cells #[.int .u8 129] 5)).ownsRow _ _ _ _ _ _ at hown
    change TwoBx w (w2.alloc (.cells #[.int .u8 129] 5)) _ _ _ _ at L'
    generalize w2.heap.size = b3 at *
    generalize w2.alloc _ = w3 at *
    rename TwoBx w w3 _ _ _ _ => L
    -- gen
    refine (rlow8_any m.gen 8 w3 (by have := HK.out.1; omega) (by have := HK.out.1; omega) (by omega)).mono ?_
    rintro e wa0 ⟨V, rfl, hlow, hb⟩
    obtain ⟨A, cc, hv⟩ := own_slice hlow
    rw [hv] at hlow ⊢
    clear hv
    have hown' := own_below hown hb
    have hr : Rd wa0 wa0.heap.size A (bs (le 8 m.gen)) := Rd.own hlow
    replace L := L.on hb
    have HBB := L.2.2.2
    have HL := Lib.hid L
    clear hown hlow hb L c1
    rename World.ownsRow wa0 _ _ _ _ _ _ => hown
    go_wp2_with (first
      | (at_builtin; go_loud (refine wpList_append_rd _ rfl _ _ _ rfl (w.heap.size + 2) 5 _ 1 1 elem8 (.slice (some ⟨b3, 0, none⟩) 1 1) 1 (bs ([129] ++ enc [])) rfl hown wa0.heap.size A 8 cc (bs (le 8 m.gen)) rfl (by rw [bs_length, le_length]) hr (bs_one _) (by unfold maxLen; omega) (by omega) HBB ?_); intro v0 wb0 hown0 hg0 hs0; clear hs0; have L := HL.out.grew ((Below.refl _ _).grown hg0 HBB fun g hg => (hown.lt g hg).1); have c1 := L.1.ms.2.2.1)
      | fail)
    clear hg0 hown hr HL HBB
    rename World.ownsRow wb0 _ _ _ _ _ _ => hown
    rw [← bs_append, (zs_snoc 129 [] 8 m.gen : _ = [129] ++ enc [(8, m.gen)])] at hown
    -- epoch
    refine (rlow8_any m.epoch 8 wb0 (by have := HK.out.2.1; omega) (by have := HK.out.2.1; omega) (by omega)).mono ?_
    rintro e wa1 ⟨V, rfl, hlow, hb⟩
    obtain ⟨A, cc, hv⟩ := own_slice hlow
    rw [hv] at hlow ⊢
    clear hv
    have hown' := own_below hown hb
    have hr : Rd wa1 wa1.heap.size A (bs (le 8 m.epoch)) := Rd.own hlow
    replace L := L.on hb
    have HBB := L.2.2.2
    have HL := Lib.hid L
    clear hown hlow hb L c1
    rename World.ownsRow wa1 _ _ _ _ _ _ => hown
    go_wp2_with (first
      | (at_builtin; go_loud (refine wpList_append_rd _ rfl _ _ _ rfl (w.heap.size + 2) 5 _ 1 1 elem8 v0 9 (bs ([129] ++ enc [(8, m.gen)])) rfl hown wa1.heap.size A 8 cc (bs (le 8 m.epoch)) rfl (by rw [bs_length, le_length]) hr (bs_one _) (by unfold maxLen; omega) (by omega) HBB ?_); intro v1 wb1 hown0 hg0 hs0; clear hs0; have L := HL.out.grew ((Below.refl _ _).grown hg0 HBB fun g hg => (hown.lt g hg).1); have c1 := L.1.ms.2.2.2.1)
      | fail)
    clear hg0 hown hr HL HBB
    rename World.ownsRow wb1 _ _ _ _ _ _ => hown
    rw [← bs_append, (zs_snoc 129 [(8, m.gen)] 8 m.epoch : _ = [129] ++ enc [(8, m.gen), (8, m.epoch)])] at hown
    -- seq
    refine (rlow8_any m.seq 8 wb1 (by have := HK.out.2.2.1; omega) (by have := HK.out.2.2.1; omega) (by omega)).mono ?_
    rintro e wa2 ⟨V, rfl, hlow, hb⟩
    obtain ⟨A, cc, hv⟩ := own_slice hlow
    rw [hv] at hlow ⊢
    clear hv
    have hown' := own_below hown hb
    have hr : Rd wa2 wa2.heap.size A (bs (le 8 m.seq)) := Rd.own hlow
    replace L := L.on hb
    have HBB := L.2.2.2
    have HL := Lib.hid L
    clear hown hlow hb L c1
    rename World.ownsRow wa2 _ _ _ _ _ _ => hown
    go_wp2_with (first
      | (at_builtin; go_loud (refine wpList_append_rd _ rfl _ _ _ rfl (w.heap.size + 2) 5 _ 1 1 elem8 v1 17 (bs ([129] ++ enc [(8, m.gen), (8, m.epoch)])) rfl hown wa2.heap.size A 8 cc (bs (le 8 m.seq)) rfl (by rw [bs_length, le_length]) hr (bs_one _) (by unfold maxLen; omega) (by omega) HBB ?_); intro v2 wb2 hown0 hg0 hs0; clear hs0; have L := HL.out.grew ((Below.refl _ _).grown hg0 HBB fun g hg => (hown.lt g hg).1); have c1 := L.1.ms.2.2.2.2.1)
      | fail)
    clear hg0 hown hr HL HBB
    rename World.ownsRow wb2 _ _ _ _ _ _ => hown
    rw [← bs_append, (zs_snoc 129 [(8, m.gen), (8, m.epoch)] 8 m.seq : _ = [129] ++ enc [(8, m.gen), (8, m.epoch), (8, m.seq)])] at hown
    -- pages
    refine (rlow8_any m.pages 4 wb2 (by have := HK.out.2.2.2.1; omega) (by have := HK.out.2.2.2.1; omega) (by omega)).mono ?_
    rintro e wa3 ⟨V, rfl, hlow, hb⟩
    obtain ⟨A, cc, hv⟩ := own_slice hlow
    rw [hv] at hlow ⊢
    clear hv
    have hown' := own_below hown hb
    have hr : Rd wa3 wa3.heap.size A (bs (le 4 m.pages)) := Rd.own hlow
    replace L := L.on hb
    have HBB := L.2.2.2
    have HL := Lib.hid L
    clear hown hlow hb L c1
    rename World.ownsRow wa3 _ _ _ _ _ _ => hown
    go_wp2_with (first
      | (at_builtin; go_loud (refine wpList_append_rd _ rfl _ _ _ rfl (w.heap.size + 2) 5 _ 1 1 elem8 v2 25 (bs ([129] ++ enc [(8, m.gen), (8, m.epoch), (8, m.seq)])) rfl hown wa3.heap.size A 4 cc (bs (le 4 m.pages)) rfl (by rw [bs_length, le_length]) hr (bs_one _) (by unfold maxLen; omega) (by omega) HBB ?_); intro v3 wb3 hown0 hg0 hs0; clear hs0; have L := HL.out.grew ((Below.refl _ _).grown hg0 HBB fun g hg => (hown.lt g hg).1); have c1 := L.1.ms.2.2.2.2.2)
      | fail)
    clear hg0 hown hr HL HBB
    rename World.ownsRow wb3 _ _ _ _ _ _ => hown
    rw [← bs_append, (zs_snoc 129 [(8, m.gen), (8, m.epoch), (8, m.seq)] 4 m.pages : _ = [129] ++ enc [(8, m.gen), (8, m.epoch), (8, m.seq), (4, m.pages)])] at hown
    -- sum
    refine (rlow8_any m.sum 4 wb3 (by have := HI.out; omega) (by have := HI.out; omega) (by omega)).mono ?_
    rintro e wa4 ⟨V, rfl, hlow, hb⟩
    obtain ⟨A, cc, hv⟩ := own_slice hlow
    rw [hv] at hlow ⊢
    clear hv
    have hown' := own_below hown hb
    have hr : Rd wa4 wa4.heap.size A (bs (le 4 m.sum)) := Rd.own hlow
    replace L := L.on hb
    have HBB := L.2.2.2
    have HL := Lib.hid L
    clear hown hlow hb L c1
    rename World.ownsRow wa4 _ _ _ _ _ _ => hown
    go_wp2_with (first
      | (at_builtin; go_loud (refine wpList_append_rd _ rfl _ _ _ rfl (w.heap.size + 2) 5 _ 1 1 elem8 v3 29 (bs ([129] ++ enc [(8, m.gen), (8, m.epoch), (8, m.seq), (4, m.pages)])) rfl hown wa4.heap.size A 4 cc (bs (le 4 m.sum)) rfl (by rw [bs_length, le_length]) hr (bs_one _) (by unfold maxLen; omega) (by omega) HBB ?_); intro v4 wb4 hown0 hg0 hs0; clear hs0; have L := HL.out.grew ((Below.refl _ _).grown hg0 HBB fun g hg => (hown.lt g hg).1))
      | fail)
    clear hg0 hown hr HL HBB
    rename World.ownsRow wb4 _ _ _ _ _ _ => hown
    rw [← bs_append, (zs_snoc 129 [(8, m.gen), (8, m.epoch), (8, m.seq), (4, m.pages)] 4 m.sum : _ = [129] ++ enc [(8, m.gen), (8, m.epoch), (8, m.seq), (4, m.pages), (4, m.sum)])] at hown
    -- filled up
    obtain ⟨A, cc, hv⟩ := own_slice hown
    rw [hv] at hown ⊢
    clear hv
    have HL := Lib.hid L
    have HF := Lib.hid (rfull_any (w.heap.size + 2) A 33 cc ([129] ++ enc [(8, m.gen), (8, m.epoch), (8, m.seq), (4, m.pages), (4, m.sum)]) wb4 (by omega) (Rec.octets_append (fun z hz => by simp at hz; omega) (enc_octets _)) L.2.2.2 hown)
    rw [show sealed (pad ([129] ++ enc [(8, m.gen), (8, m.epoch), (8, m.seq), (4, m.pages), (4, m.sum)])) = layL m from (by unfold layL secL front fs; rw [HMK.out])] at HF
    have HSL := Lib.hid (layL_length m)
    clear L hown
    go_wp2_with fail
    refine HF.out.mono ?_
    rintro e w8 ⟨rfl, hb8⟩
    have HL8 := Lib.hid (HL.out.grew hb8)
    have HX8 := Lib.hid HL8.out.2.1
    clear HL HF hb8
    generalize hR : layL m = R at *
    go_wp2_with (first
      | ((with_reducible refine wpList_pg_store (o := ⟨none, .store _ _ _, _, _, _, _⟩) rfl _ _ rfl (w.heap.size + 1) R pg0 HSL.out rfl rfl rfl HX8.out ?_); intro w9 hb9 hg9 _)
      | fail)
    have hldF := big_load0 Try.prog (w.heap.size + 1) 0 (bs R) m6 (by rw [bs_length, HSL.out, HM.out]) _ hb9.range0
    generalize hS : bs R = Rb at hldF ⊢
    exact bodyPost_ret (v := .agg Rb.toArray) (by simp [results, Try.results37, go_sem, hsz, hldF]) rfl ⟨by rw [hR, hS], below_stored HL8.out.2.2.1 hg9 HL8.out.2.2.1.size (by omega)⟩

end Go.Proofs.Ytgnpohkippegpaa

/-
  MsJ CkT
-/
import Derived.Test.YtgnpohkippegpaaGreatMg29
import Derived.Test.YtgnpohkippegpaaGreatMg42
import Derived.Test.YtgnpohkippegpaaGreatMg20
import Derived.Test.YtgnpohkippegpaaGreatMg41
import Derived.Test.YtgnpohkippegpaaGreatMg34
import Derived.Test.YtgnpohkippegpaaGreatMg19
/-
  The document's answers for layer 8: fits, Right, low, Lay, LayGeom.
-/
namespace Go.Proofs.YtgnpohkippegpaaGreat
open Go.RowKit Word Crc Mast
set_option linter.unusedVariables false

def fitB (n l : Int) : Bool := decide (l ≤ n) && decide (n ≤ 1099511627776)
theorem rfits8_any (n l : Int) (w : World) : Calls Tryz.prog 86 #[.int .i64 n, .int .i64 l] w fun e w' => e = .returned (.bool (fitB n l)) ∧ w = w' := by
  by_cases h : l ≤ n
  · by_cases h2 : n ≤ 1099511627776
    · have HN := Lib.hid (show fitB n l = true by unfold fitB; rw [decide_eq_true h, decide_eq_true h2]; rfl)
      go_enter Tryz.func86, Tryz.ntmps86
      go_wp2
      go_ret
      exact ⟨ret_bool HN.out, rfl⟩
    · have HN := Lib.hid (show fitB n l = false by unfold fitB; rw [decide_eq_true h, decide_eq_false h2]; rfl)
      go_enter Tryz.func86, Tryz.ntmps86
      go_wp2
      go_ret
      exact ⟨ret_bool HN.out, rfl⟩
  · have HN := Lib.hid (show fitB n l = false by unfold fitB; rw [decide_eq_false h]; rfl)
    go_enter Tryz.func86, Tryz.ntmps86
    go_wp2
    go_ret
    exact ⟨ret_bool HN.out, rfl⟩

set_option maxRecDepth 100000 in
set_option maxHeartbeats 4000000 in
theorem rright8_any (m : Mst) (w : World) :
    Calls Tryz.prog 62 #[.agg (mcs m).toArray] w fun e w' => e = .returned (.bool (okB m)) ∧ Below w.heap.size w w' := by
  have hbx := Box.new w 34 (mcs m)
  have hB := (Below.refl w.heap.size w).alloc (Nat.le_refl _) (.cells (mcs m).toArray 34 (0, 0))
  obtain ⟨c0, c1, c2, c3, c4, c5⟩ := hbx.ms
  have HB := Lib.hid hB
  have HF := Lib.hid (okB_eq m)
  generalize hW : w.alloc (.cells (mcs m).toArray 34) = W at *
  have HW := Lib.hid hW
  generalize okB m = ob at HF ⊢
  clear hB hbx
  obtain ⟨foot, gen, epoch, seq, pages, sum⟩ := m
  simp only at *
  have HE := Lib.hid fun w' => rfits8_any gen 1 w'
  have HS := Lib.hid fun w' => rfits8_any epoch 1 w'
  have HQ := Lib.hid fun w' => rfits8_any seq 0 w'
  change Hid (ob = (fitB gen 1 && fitB epoch 1 && (fitB seq 0 && (decide (0 ≤ pages) && decide (pages ≤ 4096)) && (foot || sum == 0)))) at HF
  generalize fitB gen 1 = ng at *
  generalize fitB epoch 1 = ne at *
  generalize fitB seq 0 = nq at *
  cases ng with
  | false =>
    go_enter Tryz.func62, Tryz.ntmps62
    go_wp2_with (go_at_call 86; (first | (with_reducible refine (HE.out _).mono ?_) | (with_reducible refine (HS.out _).mono ?_) | (with_reducible refine (HQ.out _).mono ?_)); rintro e w' ⟨rfl, rfl⟩)
    all_goals go_ret
    all_goals exact ⟨ret_bool (by rw [HF.out]; clear HW hW c0 c1 c2 c3 c4 c5; first | (simp; done) | (simp [*]; done) | (simp [*]; omega) | simp_all), HB.out⟩
  | true =>
    cases ne with
    | false =>
      go_enter Tryz.func62, Tryz.ntmps62
      go_wp2_with (go_at_call 86; (first | (with_reducible refine (HE.out _).mono ?_) | (with_reducible refine (HS.out _).mono ?_) | (with_reducible refine (HQ.out _).mono ?_)); rintro e w' ⟨rfl, rfl⟩)
      all_goals go_ret
      all_goals exact ⟨ret_bool (by rw [HF.out]; clear HW hW c0 c1 c2 c3 c4 c5; first | (simp; done) | (simp [*]; done) | (simp [*]; omega) | simp_all), HB.out⟩
    | true =>
      cases nq with
      | false =>
        go_enter Tryz.func62, Tryz.ntmps62
        go_wp2_with (go_at_call 86; (first | (with_reducible refine (HE.out _).mono ?_) | (with_reducible refine (HS.out _).mono ?_) | (with_reducible refine (HQ.out _).mono ?_)); rintro e w' ⟨rfl, rfl⟩)
        all_goals go_ret
        all_goals exact ⟨ret_bool (by rw [HF.out]; clear HW hW c0 c1 c2 c3 c4 c5; first | (simp; done) | (simp [*]; done) | (simp [*]; omega) | simp_all), HB.out⟩
      | true =>
        have h4 : (pages < 0) ∨ (0 ≤ pages ∧ 4096 < pages) ∨ (0 ≤ pages ∧ pages ≤ 4096) := by omega
        rcases h4 with h4 | ⟨h4, h4'⟩ | ⟨h4, h4'⟩ <;> cases foot <;>
        · go_enter Tryz.func62, Tryz.ntmps62
          go_wp2_with (go_at_call 86; (first | (with_reducible refine (HE.out _).mono ?_) | (with_reducible refine (HS.out _).mono ?_) | (with_reducible refine (HQ.out _).mono ?_)); rintro e w' ⟨rfl, rfl⟩)
          all_goals go_ret
          all_goals exact ⟨ret_bool (by rw [HF.out]; clear HW hW c0 c1 c2 c3 c4 c5; first | (simp; done) | (simp [*]; done) | (simp [*]; omega) | simp_all), HB.out⟩

set_option maxRecDepth 100000 in
set_option maxHeartbeats 2000000 in
theorem rlow8_any (N : Int) (c : Nat) (w : World) (h0 : 0 ≤ N) (h1 : N < 9223372036854775808) (hc : c ≤ 8) :
    Calls Tryz.prog 87 #[.int .i64 N, .int .i64 c] w fun e w' => ∃ V, e = .returned V ∧ w'.ownsRow w.heap.size 5 1 V c (bs (le c N)) ∧ Below w.heap.size w w' := by
  go_enter Tryz.func87, Tryz.ntmps87
  go_wp2_with fail
  go_loopw [0, 5, 6] (fun n o i wr => ∃ k : Nat, k ≤ c ∧ i = .int .i64 k ∧ n = .int .i64 (N / 2 ^ (8 * k)) ∧ wr.ownsRow w.heap.size 5 1 o k (bs (le k N)) ∧ Below w.heap.size w wr) (fun _ _ i _ => c - (intOf i).toNat)
  case atStart => exact ⟨0, by omega, rfl, by simp, World.ownsRow_nil _ _ _ _, Below.refl _ _⟩
  case round =>
    obtain ⟨k, hk, rfl, rfl, hown, hbl⟩ := hrel
    by_cases hlt : k < c
    · have HP := Lib.hid (show bs (le (k + 1) N) = bs (le k N) ++ [.int .u8 (N / 2 ^ (8 * k) % 256)] by
        rw [le_snoc, bs_append _ [_]]; rfl)
      have HN := Lib.hid (show N / 2 ^ (8 * (k + 1)) = N / 2 ^ (8 * k) / 256 by
        rw [pow8_succ, Int.mul_comm, Int.ediv_ediv_of_nonneg (Int.le_of_lt (pow8_pos _))])
      have hy : 0 ≤ N / 2 ^ (8 * k) := Int.ediv_nonneg (by omega) (Int.le_of_lt (pow8_pos _))
      have hy2 : N / 2 ^ (8 * k) < 9223372036854775808 := Int.lt_of_le_of_lt (Int.ediv_le_self _ h0) h1
      generalize N / 2 ^ (8 * k) = y at *
      clear h0 h1
      go_wp2_with (at_builtin; go_loud (refine wpList_append_one _ rfl _ _ _ rfl w.heap.size 5 _ 1 elem8 u5 k _ rfl _ rfl hown rfl (by simp only [maxLen]; omega) (by omega) hbl.size ?_); intro v1 w1 hown1 hg1)
      go_roundw
      case rel => exact ⟨k + 1, by omega, by go_num, by rw [HN.out], by rw [HP.out]; exact hown1, hbl.grown hg1 hbl.size fun g hg => (hown.lt g hg).1⟩
      case measure => simp [intOf]; omega
    · obtain rfl : c = k := by omega
      go_wp2
      go_ret
      exact ⟨_, rfl, hown, hbl⟩

theorem zs_snoc (b : Int) (xs : List (Nat × Int)) (n : Nat) (x : Int) : ([b] ++ enc xs) ++ le n x = [b] ++ enc (xs ++ [(n, x)]) := by
  rw [enc_append]
  simp only [enc, List.flatMap_cons, List.flatMap_nil, List.append_nil, List.append_assoc]

set_option maxRecDepth 100000 in
set_option maxHeartbeats 4000000 in
theorem rlay8_any (m : Mst) (w : World) (hk : Ok m) (hi : In m) :
    Calls Tryz.prog 63 #[.agg (mcs m).toArray] w fun e w' => e = .returned (.agg (bs (layL m)).toArray) ∧ Below w.heap.size w w' := by
  obtain ⟨m6, hm, hsz⟩ := big_size (P := Tryz.prog) (t := 43) (s := 64) (by kernel_rfl)
  have hm0 : ¬ m6 = 0 := by omega
  have HM := Lib.hid hm
  have HK := Lib.hid hk
  clear hm hk
  have HI := Lib.hid (show 0 ≤ m.sum ∧ m.sum < 4294967296 from hi)
  have hs0 := HI.out.1
  have hs1' := HI.out.2
  clear hi
  cases hf : m.foot with
  | true =>
    have HMK := Lib.hid (show Mast.mark m = 130 by unfold Mast.mark; rw [if_pos hf])
    go_enter Tryz.func63, Tryz.ntmps63
    go_wp2_with (first
      | ((with_reducible refine wpList_ms_box (o := ⟨some 1, .box _ _, _, _, _, _⟩) rfl _ rfl m rfl ?_); intro w1 x0 hB1 hs1)
      | ((with_reducible refine wpList_pg_alloc (o := ⟨some 2, .alloc _, _, _, _, _⟩) rfl rfl ?_); intro w2 x1 hB2 hs2; have L := TwoBx.start x0 hB1 hs1 x1 hB2 hs2; rw [hs1]; clear hs1 hs2 x0 x1 hB1 hB2; have cf : (w2.alloc (.cells #[.int .u8 129] 5)).cell? ⟨w.heap.size, 0, none⟩ = some (.bool m.foot) := (L.on ((Below.refl _ _).alloc (Nat.le_refl _) (.cells (bs [129]).toArray 5 (0, 0)))).1.ms.1; rw [hf] at cf; have L' := L.on ((Below.refl _ _).alloc (Nat.le_refl _) (.cells (bs [130]).toArray 5 (0, 0))); have c1 : (w2.alloc (.cells #[.int .u8 130] 5)).cell? ⟨w.heap.size, 1, none⟩ = some (.int .i64 m.gen) := L'.1.ms.2.1)
      | fail)
    clear cf hf
    have hown := own_base0 (lit_own (w := w2) [130] 1 rfl (by decide)) L.2.2.2
    clear L
    change (w2.alloc (.cells #[.int .u8 130] 5)).ownsRow _ _ _ _ _ _ at hown
    change TwoBx w (w2.alloc (.cells #[.int .u8 130] 5)) _ _ _ _ at L'
    generalize w2.heap.size = b3 at *
    generalize w2.alloc _ = w3 at *
    rename TwoBx w w3 _ _ _ _ => L
    -- gen
    refine (rlow8_any m.gen 8 w3 (by have := HK.out.1; omega) (by have := HK.out.1; omega) (by omega)).mono ?_
    rintro e wa0 ⟨V, rfl, hlow, hb⟩
    obtain ⟨A, cc, hv⟩ := own_slice hlow
    rw [hv] at hlow ⊢
    clear hv
    have hown' := own_below hown hb
    have hr : Rd wa0 wa0.heap.size A (bs (le 8 m.gen)) := Rd.own hlow
    replace L := L.on hb
    have HBB := L.2.2.2
    have HL := Lib.hid L
    clear hown hlow hb L c1
    rename World.ownsRow wa0 _ _ _ _ _ _ => hown
    go_wp2_with (first
      | (at_builtin; go_loud (refine wpList_append_rd _ rfl _ _ _ rfl (w.heap.size + 2) 5 _ 1 1 elem8 (.slice (some ⟨b3, 0, none⟩) 1 1) 1 (bs ([130] ++ enc [])) rfl hown wa0.heap.size A 8 cc (bs (le 8 m.gen)) rfl (by rw [bs_length, le_length]) hr (bs_one _) (by unfold maxLen; omega) (by omega) HBB ?_); intro v0 wb0 hown0 hg0 hs0; clear hs0; have L := HL.out.grew ((Below.refl _ _).grown hg0 HBB fun g hg => (hown.lt g hg).1); have c1 := L.1.ms.2.2.1)
      | fail)
    clear hg0 hown hr HL HBB
    rename World.ownsRow wb0 _ _ _ _ _ _ => hown
    rw [← bs_append, (zs_snoc 130 [] 8 m.gen : _ = [130] ++ enc [(8, m.gen)])] at hown
    -- epoch
    refine (rlow8_any m.epoch 8 wb0 (by have := HK.out.2.1; omega) (by have := HK.out.2.1; omega) (by omega)).mono ?_
    rintro e wa1 ⟨V, rfl, hlow, hb⟩
    obtain ⟨A, cc, hv⟩ := own_slice hlow
    rw [hv] at hlow ⊢
    clear hv
    have hown' := own_below hown hb
    have hr : Rd wa1 wa1.heap.size A (bs (le 8 m.epoch)) := Rd.own hlow
    replace L := L.on hb
    have HBB := L.2.2.2
    have HL := Lib.hid L
    clear hown hlow hb L c1
    rename World.ownsRow wa1 _ _ _ _ _ _ => hown
    go_wp2_with (first
      | (at_builtin; go_loud (refine wpList_append_rd _ rfl _ _ _ rfl (w.heap.size + 2) 5 _ 1 1 elem8 v0 9 (bs ([130] ++ enc [(8, m.gen)])) rfl hown wa1.heap.size A 8 cc (bs (le 8 m.epoch)) rfl (by rw [bs_length, le_length]) hr (bs_one _) (by unfold maxLen; omega) (by omega) HBB ?_); intro v1 wb1 hown0 hg0 hs0; clear hs0; have L := HL.out.grew ((Below.refl _ _).grown hg0 HBB fun g hg => (hown.lt g hg).1); have c1 := L.1.ms.2.2.2.1)
      | fail)
    clear hg0 hown hr HL HBB
    rename World.ownsRow wb1 _ _ _ _ _ _ => hown
    rw [← bs_append, (zs_snoc 130 [(8, m.gen)] 8 m.epoch : _ = [130] ++ enc [(8, m.gen), (8, m.epoch)])] at hown
    -- seq
    refine (rlow8_any m.seq 8 wb1 (by have := HK.out.2.2.1; omega) (by have := HK.out.2.2.1; omega) (by omega)).mono ?_
    rintro e wa2 ⟨V, rfl, hlow, hb⟩
    obtain ⟨A, cc, hv⟩ := own_slice hlow
    rw [hv] at hlow ⊢
    clear hv
    have hown' := own_below hown hb
    have hr : Rd wa2 wa2.heap.size A (bs (le 8 m.seq)) := Rd.own hlow
    replace L := L.on hb
    have HBB := L.2.2.2
    have HL := Lib.hid L
    clear hown hlow hb L c1
    rename World.ownsRow wa2 _ _ _ _ _ _ => hown
    go_wp2_with (first
      | (at_builtin; go_loud (refine wpList_append_rd _ rfl _ _ _ rfl (w.heap.size + 2) 5 _ 1 1 elem8 v1 17 (bs ([130] ++ enc [(8, m.gen), (8, m.epoch)])) rfl hown wa2.heap.size A 8 cc (bs (le 8 m.seq)) rfl (by rw [bs_length, le_length]) hr (bs_one _) (by unfold maxLen; omega) (by omega) HBB ?_); intro v2 wb2 hown0 hg0 hs0; clear hs0; have L := HL.out.grew ((Below.refl _ _).grown hg0 HBB fun g hg => (hown.lt g hg).1); have c1 := L.1.ms.2.2.2.2.1)
      | fail)
    clear hg0 hown hr HL HBB
    rename World.ownsRow wb2 _ _ _ _ _ _ => hown
    rw [← bs_append, (zs_snoc 130 [(8, m.gen), (8, m.epoch)] 8 m.seq : _ = [130] ++ enc [(8, m.gen), (8, m.epoch), (8, m.seq)])] at hown
    -- pages
    refine (rlow8_any m.pages 4 wb2 (by have := HK.out.2.2.2.1; omega) (by have := HK.out.2.2.2.1; omega) (by omega)).mono ?_
    rintro e wa3 ⟨V, rfl, hlow, hb⟩
    obtain ⟨A, cc, hv⟩ := own_slice hlow
    rw [hv] at hlow ⊢
    clear hv
    have hown' := own_below hown hb
    have hr : Rd wa3 wa3.heap.size A (bs (le 4 m.pages)) := Rd.own hlow
    replace L := L.on hb
    have HBB := L.2.2.2
    have HL := Lib.hid L
    clear hown hlow hb L c1
    rename World.ownsRow wa3 _ _ _ _ _ _ => hown
    go_wp2_with (first
      | (at_builtin; go_loud (refine wpList_append_rd _ rfl _ _ _ rfl (w.heap.size + 2) 5 _ 1 1 elem8 v2 25 (bs ([130] ++ enc [(8, m.gen), (8, m.epoch), (8, m.seq)])) rfl hown wa3.heap.size A 4 cc (bs (le 4 m.pages)) rfl (by rw [bs_length, le_length]) hr (bs_one _) (by unfold maxLen; omega) (by omega) HBB ?_); intro v3 wb3 hown0 hg0 hs0; clear hs0; have L := HL.out.grew ((Below.refl _ _).grown hg0 HBB fun g hg => (hown.lt g hg).1); have c1 := L.1.ms.2.2.2.2.2)
      | fail)
    clear hg0 hown hr HL HBB
    rename World.ownsRow wb3 _ _ _ _ _ _ => hown
    rw [← bs_append, (zs_snoc 130 [(8, m.gen), (8, m.epoch), (8, m.seq)] 4 m.pages : _ = [130] ++ enc [(8, m.gen), (8, m.epoch), (8, m.seq), (4, m.pages)])] at hown
    -- sum
    refine (rlow8_any m.sum 4 wb3 (by have := HI.out; omega) (by have := HI.out; omega) (by omega)).mono ?_
    rintro e wa4 ⟨V, rfl, hlow, hb⟩
    obtain ⟨A, cc, hv⟩ := own_slice hlow
    rw [hv] at hlow ⊢
    clear hv
    have hown' := own_below hown hb
    have hr : Rd wa4 wa4.heap.size A (bs (le 4 m.sum)) := Rd.own hlow
    replace L := L.on hb
    have HBB := L.2.2.2
    have HL := Lib.hid L
    clear hown hlow hb L c1
    rename World.ownsRow wa4 _ _ _ _ _ _ => hown
    go_wp2_with (first
      | (at_builtin; go_loud (refine wpList_append_rd _ rfl _ _ _ rfl (w.heap.size + 2) 5 _ 1 1 elem8 v3 29 (bs ([130] ++ enc [(8, m.gen), (8, m.epoch), (8, m.seq), (4, m.pages)])) rfl hown wa4.heap.size A 4 cc (bs (le 4 m.sum)) rfl (by rw [bs_length, le_length]) hr (bs_one _) (by unfold maxLen; omega) (by omega) HBB ?_); intro v4 wb4 hown0 hg0 hs0; clear hs0; have L := HL.out.grew ((Below.refl _ _).grown hg0 HBB fun g hg => (hown.lt g hg).1))
      | fail)
    clear hg0 hown hr HL HBB
    rename World.ownsRow wb4 _ _ _ _ _ _ => hown
    rw [← bs_append, (zs_snoc 130 [(8, m.gen), (8, m.epoch), (8, m.seq), (4, m.pages)] 4 m.sum : _ = [130] ++ enc [(8, m.gen), (8, m.epoch), (8, m.seq), (4, m.pages), (4, m.sum)])] at hown
    -- filled up
    obtain ⟨A, cc, hv⟩ := own_slice hown
    rw [hv] at hown ⊢
    clear hv
    have HL := Lib.hid L
    have HF := Lib.hid (rfull_any (w.heap.size + 2) A 33 cc ([130] ++ enc [(8, m.gen), (8, m.epoch), (8, m.seq), (4, m.pages), (4, m.sum)]) wb4 (by omega) (Rec.octets_append (fun z hz => by simp at hz; omega) (enc_octets _)) L.2.2.2 hown)
    rw [show sealed (pad ([130] ++ enc [(8, m.gen), (8, m.epoch), (8, m.seq), (4, m.pages), (4, m.sum)])) = layL m from (by unfold layL secL front fs; rw [HMK.out])] at HF
    have HSL := Lib.hid (layL_length m)
    clear L hown
    go_wp2_with fail
    refine HF.out.mono ?_
    rintro e w8 ⟨rfl, hb8⟩
    have HL8 := Lib.hid (HL.out.grew hb8)
    have HX8 := Lib.hid HL8.out.2.1
    clear HL HF hb8
    generalize hR : layL m = R at *
    go_wp2_with (first
      | ((with_reducible refine wpList_pg_store (o := ⟨none, .store _ _ _, _, _, _, _⟩) rfl _ _ rfl (w.heap.size + 1) R pg0 HSL.out rfl rfl rfl HX8.out ?_); intro w9 hb9 hg9 _)
      | fail)
    have hldF := big_load0 Tryz.prog (w.heap.size + 1) 0 (bs R) m6 (by rw [bs_length, HSL.out, HM.out]) _ hb9.range0
    generalize hS : bs R = Rb at hldF ⊢
    exact bodyPost_ret (v := .agg Rb.toArray) (by simp [results, Tryz.results63, go_sem, hsz, hldF]) rfl ⟨by rw [hR, hS], below_stored HL8.out.2.2.1 hg9 HL8.out.2.2.1.size (by omega)⟩
  | false =>
    have HMK := Lib.hid (show Mast.mark m = 129 by unfold Mast.mark; rw [if_neg (by rw [hf]; simp)])
    go_enter Tryz.func63, Tryz.ntmps63
    go_wp2_with (first
      | ((with_reducible refine wpList_ms_box (o := ⟨some 1, .box _ _, _, _, _, _⟩) rfl _ rfl m rfl ?_); intro w1 x0 hB1 hs1)
      | ((with_reducible refine wpList_pg_alloc (o := ⟨some 2, .alloc _, _, _, _, _⟩) rfl rfl ?_); intro w2 x1 hB2 hs2; have L := TwoBx.start x0 hB1 hs1 x1 hB2 hs2; rw [hs1]; clear hs1 hs2 x0 x1 hB1 hB2; have cf : (w2.alloc (.cells #[.int .u8 129] 5)).cell? ⟨w.heap.size, 0, none⟩ = some (.bool m.foot) := (L.on ((Below.refl _ _).alloc (Nat.le_refl _) (.cells (bs [129]).toArray 5 (0, 0)))).1.ms.1; rw [hf] at cf; have L' := L.on ((Below.refl _ _).alloc (Nat.le_refl _) (.cells (bs [129]).toArray 5 (0, 0))); have c1 : (w2.alloc (.cells #[.int .u8 129] 5)).cell? ⟨w.heap.size, 1, none⟩ = some (.int .i64 m.gen) := L'.1.ms.2.1)
      | fail)
    clear cf hf
    have hown := own_base0 (lit_own (w := w2) [129] 1 rfl (by decide)) L.2.2.2
    clear L
    change (w2.alloc (.cells #[.int .u8 129] 5)).ownsRow _ _ _ _ _ _ at hown
    change TwoBx w (w2.alloc (.cells #[.int .u8 129] 5)) _ _ _ _ at L'
    generalize w2.heap.size = b3 at *
    generalize w2.alloc _ = w3 at *
    rename TwoBx w w3 _ _ _ _ => L
    -- gen
    refine (rlow8_any m.gen 8 w3 (by have := HK.out.1; omega) (by have := HK.out.1; omega) (by omega)).mono ?_
    rintro e wa0 ⟨V, rfl, hlow, hb⟩
    obtain ⟨A, cc, hv⟩ := own_slice hlow
    rw [hv] at hlow ⊢
    clear hv
    have hown' := own_below hown hb
    have hr : Rd wa0 wa0.heap.size A (bs (le 8 m.gen)) := Rd.own hlow
    replace L := L.on hb
    have HBB := L.2.2.2
    have HL := Lib.hid L
    clear hown hlow hb L c1
    rename World.ownsRow wa0 _ _ _ _ _ _ => hown
    go_wp2_with (first
      | (at_builtin; go_loud (refine wpList_append_rd _ rfl _ _ _ rfl (w.heap.size + 2) 5 _ 1 1 elem8 (.slice (some ⟨b3, 0, none⟩) 1 1) 1 (bs ([129] ++ enc [])) rfl hown wa0.heap.size A 8 cc (bs (le 8 m.gen)) rfl (by rw [bs_length, le_length]) hr (bs_one _) (by unfold maxLen; omega) (by omega) HBB ?_); intro v0 wb0 hown0 hg0 hs0; clear hs0; have L := HL.out.grew ((Below.refl _ _).grown hg0 HBB fun g hg => (hown.lt g hg).1); have c1 := L.1.ms.2.2.1)
      | fail)
    clear hg0 hown hr HL HBB
    rename World.ownsRow wb0 _ _ _ _ _ _ => hown
    rw [← bs_append, (zs_snoc 129 [] 8 m.gen : _ = [129] ++ enc [(8, m.gen)])] at hown
    -- epoch
    refine (rlow8_any m.epoch 8 wb0 (by have := HK.out.2.1; omega) (by have := HK.out.2.1; omega) (by omega)).mono ?_
    rintro e wa1 ⟨V, rfl, hlow, hb⟩
    obtain ⟨A, cc, hv⟩ := own_slice hlow
    rw [hv] at hlow ⊢
    clear hv
    have hown' := own_below hown hb
    have hr : Rd wa1 wa1.heap.size A (bs (le 8 m.epoch)) := Rd.own hlow
    replace L := L.on hb
    have HBB := L.2.2.2
    have HL := Lib.hid L
    clear hown hlow hb L c1
    rename World.ownsRow wa1 _ _ _ _ _ _ => hown
    go_wp2_with (first
      | (at_builtin; go_loud (refine wpList_append_rd _ rfl _ _ _ rfl (w.heap.size + 2) 5 _ 1 1 elem8 v0 9 (bs ([129] ++ enc [(8, m.gen)])) rfl hown wa1.heap.size A 8 cc (bs (le 8 m.epoch)) rfl (by rw [bs_length, le_length]) hr (bs_one _) (by unfold maxLen; omega) (by omega) HBB ?_); intro v1 wb1 hown0 hg0 hs0; clear hs0; have L := HL.out.grew ((Below.refl _ _).grown hg0 HBB fun g hg => (hown.lt g hg).1); have c1 := L.1.ms.2.2.2.1)
      | fail)
    clear hg0 hown hr HL HBB
    rename World.ownsRow wb1 _ _ _ _ _ _ => hown
    rw [← bs_append, (zs_snoc 129 [(8, m.gen)] 8 m.epoch : _ = [129] ++ enc [(8, m.gen), (8, m.epoch)])] at hown
    -- seq
    refine (rlow8_any m.seq 8 wb1 (by have := HK.out.2.2.1; omega) (by have := HK.out.2.2.1; omega) (by omega)).mono ?_
    rintro e wa2 ⟨V, rfl, hlow, hb⟩
    obtain ⟨A, cc, hv⟩ := own_slice hlow
    rw [hv] at hlow ⊢
    clear hv
    have hown' := own_below hown hb
    have hr : Rd wa2 wa2.heap.size A (bs (le 8 m.seq)) := Rd.own hlow
    replace L := L.on hb
    have HBB := L.2.2.2
    have HL := Lib.hid L
    clear hown hlow hb L c1
    rename World.ownsRow wa2 _ _ _ _ _ _ => hown
    go_wp2_with (first
      | (at_builtin; go_loud (refine wpList_append_rd _ rfl _ _ _ rfl (w.heap.size + 2) 5 _ 1 1 elem8 v1 17 (bs ([129] ++ enc [(8, m.gen), (8, m.epoch)])) rfl hown wa2.heap.size A 8 cc (bs (le 8 m.seq)) rfl (by rw [bs_length, le_length]) hr (bs_one _) (by unfold maxLen; omega) (by omega) HBB ?_); intro v2 wb2 hown0 hg0 hs0; clear hs0; have L := HL.out.grew ((Below.refl _ _).grown hg0 HBB fun g hg => (hown.lt g hg).1); have c1 := L.1.ms.2.2.2.2.1)
      | fail)
    clear hg0 hown hr HL HBB
    rename World.ownsRow wb2 _ _ _ _ _ _ => hown
    rw [← bs_append, (zs_snoc 129 [(8, m.gen), (8, m.epoch)] 8 m.seq : _ = [129] ++ enc [(8, m.gen), (8, m.epoch), (8, m.seq)])] at hown
    -- pages
    refine (rlow8_any m.pages 4 wb2 (by have := HK.out.2.2.2.1; omega) (by have := HK.out.2.2.2.1; omega) (by omega)).mono ?_
    rintro e wa3 ⟨V, rfl, hlow, hb⟩
    obtain ⟨A, cc, hv⟩ := own_slice hlow
    rw [hv] at hlow ⊢
    clear hv
    have hown' := own_below hown hb
    have hr : Rd wa3 wa3.heap.size A (bs (le 4 m.pages)) := Rd.own hlow
    replace L := L.on hb
    have HBB := L.2.2.2
    have HL := Lib.hid L
    clear hown hlow hb L c1
    rename World.ownsRow wa3 _ _ _ _ _ _ => hown
    go_wp2_with (first
      | (at_builtin; go_loud (refine wpList_append_rd _ rfl _ _ _ rfl (w.heap.size + 2) 5 _ 1 1 elem8 v2 25 (bs ([129] ++ enc [(8, m.gen), (8, m.epoch), (8, m.seq)])) rfl hown wa3.heap.size A 4 cc (bs (le 4 m.pages)) rfl (by rw [bs_length, le_length]) hr (bs_one _) (by unfold maxLen; omega) (by omega) HBB ?_); intro v3 wb3 hown0 hg0 hs0; clear hs0; have L := HL.out.grew ((Below.refl _ _).grown hg0 HBB fun g hg => (hown.lt g hg).1); have c1 := L.1.ms.2.2.2.2.2)
      | fail)
    clear hg0 hown hr HL HBB
    rename World.ownsRow wb3 _ _ _ _ _ _ => hown
    rw [← bs_append, (zs_snoc 129 [(8, m.gen), (8, m.epoch), (8, m.seq)] 4 m.pages : _ = [129] ++ enc [(8, m.gen), (8, m.epoch), (8, m.seq), (4, m.pages)])] at hown
    -- sum
    refine (rlow8_any m.sum 4 wb3 (by have := HI.out; omega) (by have := HI.out; omega) (by omega)).mono ?_
    rintro e wa4 ⟨V, rfl, hlow, hb⟩
    obtain ⟨A, cc, hv⟩ := own_slice hlow
    rw [hv] at hlow ⊢
    clear hv
    have hown' := own_below hown hb
    have hr : Rd wa4 wa4.heap.size A (bs (le 4 m.sum)) := Rd.own hlow
    replace L := L.on hb
    have HBB := L.2.2.2
    have HL := Lib.hid L
    clear hown hlow hb L c1
    rename World.ownsRow wa4 _ _ _ _ _ _ => hown
    go_wp2_with (first
      | (at_builtin; go_loud (refine wpList_append_rd _ rfl _ _ _ rfl (w.heap.size + 2) 5 _ 1 1 elem8 v3 29 (bs ([129] ++ enc [(8, m.gen), (8, m.epoch), (8, m.seq), (4, m.pages)])) rfl hown wa4.heap.size A 4 cc (bs (le 4 m.sum)) rfl (by rw [bs_length, le_length]) hr (bs_one _) (by unfold maxLen; omega) (by omega) HBB ?_); intro v4 wb4 hown0 hg0 hs0; clear hs0; have L := HL.out.grew ((Below.refl _ _).grown hg0 HBB fun g hg => (hown.lt g hg).1))
      | fail)
    clear hg0 hown hr HL HBB
    rename World.ownsRow wb4 _ _ _ _ _ _ => hown
    rw [← bs_append, (zs_snoc 129 [(8, m.gen), (8, m.epoch), (8, m.seq), (4, m.pages)] 4 m.sum : _ = [129] ++ enc [(8, m.gen), (8, m.epoch), (8, m.seq), (4, m.pages), (4, m.sum)])] at hown
    -- filled up
    obtain ⟨A, cc, hv⟩ := own_slice hown
    rw [hv] at hown ⊢
    clear hv
    have HL := Lib.hid L
    have HF := Lib.hid (rfull_any (w.heap.size + 2) A 33 cc ([129] ++ enc [(8, m.gen), (8, m.epoch), (8, m.seq), (4, m.pages), (4, m.sum)]) wb4 (by omega) (Rec.octets_append (fun z hz => by simp at hz; omega) (enc_octets _)) L.2.2.2 hown)
    rw [show sealed (pad ([129] ++ enc [(8, m.gen), (8, m.epoch), (8, m.seq), (4, m.pages), (4, m.sum)])) = layL m from (by unfold layL secL front fs; rw [HMK.out])] at HF
    have HSL := Lib.hid (layL_length m)
    clear L hown
    go_wp2_with fail
    refine HF.out.mono ?_
    rintro e w8 ⟨rfl, hb8⟩
    have HL8 := Lib.hid (HL.out.grew hb8)
    have HX8 := Lib.hid HL8.out.2.1
    clear HL HF hb8
    generalize hR : layL m = R at *
    go_wp2_with (first
      | ((with_reducible refine wpList_pg_store (o := ⟨none, .store _ _ _, _, _, _, _⟩) rfl _ _ rfl (w.heap.size + 1) R pg0 HSL.out rfl rfl rfl HX8.out ?_); intro w9 hb9 hg9 _)
      | fail)
    have hldF := big_load0 Tryz.prog (w.heap.size + 1) 0 (bs R) m6 (by rw [bs_length, HSL.out, HM.out]) _ hb9.range0
    generalize hS : bs R = Rb at hldF ⊢
    exact bodyPost_ret (v := .agg Rb.toArray) (by simp [results, Tryz.results63, go_sem, hsz, hldF]) rfl ⟨by rw [hR, hS], below_stored HL8.out.2.2.1 hg9 HL8.out.2.2.1.size (by omega)⟩

end Go.Proofs.YtgnpohkippegpaaGreat

/-
  Layer 13's answers: Sectors.
-/
namespace Go.Proofs.YtgnpohkippegpaaGreat
open Go.RowKit Geom Zone Dev Ckp Word
set_option linter.unusedVariables false

theorem own_far {w w' : World} {b b' s s' n n' : Nat} {e e' : TypeId} {v v' : Value} {xs xs' : List Value} (h' : w.ownsRow b' e' s' v' n' xs') (h : w.ownsRow b e s v n xs) (hg : w.grownBy w' v.ownBlock) (hne : e ≠ e') : w'.ownsRow b' e' s' v' n' xs' :=
  own_same h' fun g hg' => hg.block g (h'.lt g hg').2 fun e2 => by
    obtain ⟨_, cur, h2⟩ := own_type h e2.symm
    obtain ⟨_, cur', h3⟩ := own_type h' hg'
    rw [h2] at h3
    injection h3 with h3
    injection h3 with _ h3
    exact hne h3
theorem box_far {w w' : World} {b s n bx : Nat} {e T : TypeId} {v : Value} {xs cs : List Value} (x : Box w bx T cs) (h : w.ownsRow b e s v n xs) (hg : w.grownBy w' v.ownBlock) (hne : T ≠ e) : Box w' bx T cs :=
  x.same (hg.block bx x.lt fun e2 => x.ne_row h e2.symm hne rfl)
/-- what stands in memory while a checkpoint's sectors are laid -/
structure ScSt (w W : World) (m : Mast.Mst) (v7 o a : Value) (P k j : Nat) (ls : List Leaf.Lf) (os : List Value) (zs : List Int) : Prop where
  mb : Box W w.heap.size 34 (mcs m)
  bl : Below w.heap.size w W
  le : w.heap.size + 1 ≤ W.heap.size
  lv : W.ownsRow (w.heap.size + 1) 86 12 v7 P (lfls ls)
  out : W.ownsRow (w.heap.size + 1) 43 64 o k os
  all : W.ownsRow (w.heap.size + 1) 5 1 a j (bs zs)
section
variable {w W W' : World} {m : Mast.Mst} {v7 o o' a a' : Value} {P k k' j j' : Nat} {ls : List Leaf.Lf} {os os' : List Value} {zs zs' : List Int}
theorem ScSt.on (s : ScSt w W m v7 o a P k j ls os zs) (hb : Below W.heap.size W W') : ScSt w W' m v7 o a P k j ls os zs :=
  ⟨s.mb.on hb, bthen s.bl hb, Nat.le_trans s.le hb.size, own_below s.lv hb, own_below s.out hb, own_below s.all hb⟩
theorem ScSt.add (s : ScSt w W m v7 o a P k j ls os zs) (h : W'.ownsRow (w.heap.size + 1) 43 64 o' k' os') (hg : W.grownBy W' o.ownBlock) : ScSt w W' m v7 o' a P k' j ls os' zs :=
  ⟨box_far s.mb s.out hg (by decide), s.bl.grown hg s.bl.size (fun g e => by have := (s.out.lt g e).1; omega), Nat.le_trans s.le hg.size, own_far s.lv s.out hg (by decide), h, own_far s.all s.out hg (by decide)⟩
theorem ScSt.byte (s : ScSt w W m v7 o a P k j ls os zs) (h : W'.ownsRow (w.heap.size + 1) 5 1 a' j' (bs zs')) (hg : W.grownBy W' a.ownBlock) : ScSt w W' m v7 o a' P k j' ls os zs' :=
  ⟨box_far s.mb s.all hg (by decide), s.bl.grown hg s.bl.size (fun g e => by have := (s.all.lt g e).1; omega), Nat.le_trans s.le hg.size, own_far s.lv s.all hg (by decide), own_far s.out s.all hg (by decide), h⟩
theorem ScSt.cell (s : ScSt w W m v7 o a P k j ls os zs) {m' : Mast.Mst} (i : Nat) (v : Value) (h : (mcs m).set i v = mcs m') : ScSt w (W.setCell ⟨w.heap.size, i, none⟩ v) m' v7 o a P k j ls os zs := by
  have hne : ∀ g, w.heap.size + 1 ≤ g → (W.setCell ⟨w.heap.size, i, none⟩ v).heap[g]? = W.heap[g]? := fun g hg => Below.heap_setCell _ _ _ _ (by show g ≠ w.heap.size; omega)
  refine ⟨?_, s.bl.setCell (Nat.le_refl _) _, by have := s.le; simpa [World.setCell] using this, own_same s.lv fun g hg => hne g (s.lv.lt g hg).1, own_same s.out fun g hg => hne g (s.out.lt g hg).1, own_same s.all fun g hg => hne g (s.all.lt g hg).1⟩
  have := s.mb.set i v
  rwa [h] at this
end
theorem bs_snoc (zs : List Int) (z : Int) : bs zs ++ [Value.int .u8 z] = bs (zs ++ [z]) := by simp [bs]
set_option maxRecDepth 100000 in
set_option maxHeartbeats 8000000 in
theorem rcksectors_any (m : Mast.Mst) (A : Option Addr) (len cap P : Nat) (xs : List Int) (w : World) (hok : Mast.Ok m) (hin : Mast.In m) (hx : xs.length = len) (hn : len ≤ 4096) (hP : Tbl.pages len = P) (hnar : Nar (Tbl.padT xs)) (hr : Rd w w.heap.size A (is xs)) :
    Calls Tryz.prog 38 #[.agg (mcs m).toArray, .slice A len cap] w fun e w' => ∃ V, e = .returned V ∧ w'.ownsRow w.heap.size 43 64 V (P + 2) (pgcs (secs m (Tbl.padT xs) P)) ∧ Below w.heap.size w w' := by
  obtain ⟨m6, hm6, hszp⟩ := big_size (P := Tryz.prog) (t := 43) (s := 64) (by kernel_rfl)
  obtain ⟨mr, hmr, hszr⟩ := big_size (P := Tryz.prog) (t := 34) (s := 6) (by kernel_rfl)
  obtain ⟨ml, hml, hszl⟩ := big_size (P := Tryz.prog) (t := 86) (s := 12) (by kernel_rfl)
  have hm60 : ¬ m6 = 0 := by omega
  have hmr0 : ¬ mr = 0 := by omega
  have hml0 : ¬ ml = 0 := by omega
  have HM := Lib.hid (And.intro hm6 (And.intro hmr hml))
  have LA := Lib.hid fun (W : World) (b : Nat) (x : Mast.Mst) (h : Box W b 34 (mcs x)) => big_load0 Tryz.prog b 0 (mcs x) mr (by rw [mcs_length, HM.out.2.1]) W h.range0
  have hy : (Tbl.padT xs).length = 10 * P := by rw [Tbl.padT_length, hx, hP]
  have hP410 : P ≤ 410 := by rw [← hP]; exact pages_le hn
  have HMs := Lib.hid (And.intro hok hin)
  have HLf : Hid (∀ i, i < P → Leaf.Ok (Tbl.lfOf (Tbl.padT xs) m.gen i) ∧ Leaf.In (Tbl.lfOf (Tbl.padT xs) m.gen i)) := Lib.hid fun i hi => ⟨lf_ok hok.1 hnar hP410 hi, Tbl.leafOf_length hy hi⟩
  have HI : Hid (∀ l ∈ Tbl.lfsOf (Tbl.padT xs) m.gen P, Leaf.In l) := Lib.hid (by subst hP; rw [← hx]; exact lfsOf_in (gen := m.gen) (by rw [Tbl.padT_length]))
  have HLv : Hid (P64 (lvs (Tbl.padT xs) m.gen P) ∧ Oct (lvs (Tbl.padT xs) m.gen P) ∧ (lvs (Tbl.padT xs) m.gen P).length = P ∧ Mast.Ok (footOf m (lvs (Tbl.padT xs) m.gen P)) ∧ Mast.In (footOf m (lvs (Tbl.padT xs) m.gen P))) := Lib.hid ⟨lvs_64 hy, lvs_oct, lvs_length _ _ _, foot_ok hok lvs_oct⟩
  have HSn := Lib.hid fun (k : Nat) (h : k < P) => lvs_snoc (ys := Tbl.padT xs) (gen := m.gen) h
  have HSe : Hid (pgcs (secs m (Tbl.padT xs) P) = bs (Mast.layL m) ++ pgcs (lvs (Tbl.padT xs) m.gen P) ++ bs (Mast.layL (footOf m (lvs (Tbl.padT xs) m.gen P)))) := Lib.hid (by unfold secs; rw [← pgcs_one (Mast.layL (footOf m (lvs (Tbl.padT xs) m.gen P))), List.append_assoc, ← pgcs_append]; rfl)
  have HRl := Lib.hid fun w' (h : Rd w' w'.heap.size A (is xs)) => rleaves_any A len cap xs m.gen w' (by omega) hx h
  rw [hP] at HRl
  have HRd := Lib.hid hr
  have HPn : Hid (P ≤ 410) := Lib.hid hP410
  clear hm6 hmr hml hy hok hin hx hn hP hnar hr
  generalize pgcs (secs m (Tbl.padT xs) P) = SS at *
  go_enter Tryz.func38, Tryz.ntmps38
  go_wp2_with (first
    | ((with_reducible refine wpList_ms_box (o := ⟨some 2, .box _ _, _, _, _, _⟩) rfl _ rfl m rfl ?_); intro w1 x1 hB1 hs1; have hldm := LA.out _ _ _ x1)
    | fail)
  refine (rlay8_any m w1 HMs.out.1 HMs.out.2).mono ?_
  rintro e w2 ⟨rfl, hb2⟩
  have HL0 : Hid ((bs (Mast.layL m)).length = 64 ∧ ∀ u ∈ bs (Mast.layL m), u.oneCell' = true) := Lib.hid ⟨by rw [bs_length]; exact Mast.layL_length _, fun u hu => bs_one _ _ hu⟩
  have X2 := Lib.hid (And.intro (x1.on hb2) (And.intro (bthen hB1 hb2) (show w.heap.size + 1 ≤ w2.heap.size by have := hb2.size; omega)))
  clear x1 hB1 hs1 hb2 hldm
  generalize bs (Mast.layL m) = L0 at *
  have OW := Lib.hid (show (w2.alloc (.cells L0.toArray 43)).ownsRow (w.heap.size + 1) 43 64 (.slice (some ⟨w2.heap.size, 0, none⟩) 1 1) 1 L0 from World.ownsRow_lit w2 L0.toArray 1 X2.out.2.2 (by decide) (by simp [HL0.out.1]))
  go_wp2_with (first
    | ((with_reducible refine wpList_pg_slice1 (o := ⟨some 13, .buildSlice _ _ _, _, _, _, _⟩) rfl _ rfl L0 HL0.out.1 rfl ?_); have cg : (w2.alloc (.cells L0.toArray 43)).cell? ⟨w.heap.size, 1, none⟩ = some (.int .i64 m.gen) := (X2.out.1.on ((Below.refl _ _).alloc (Nat.le_refl _) _)).cell 1)
    | fail)
  have K3 : Below w2.heap.size w2 (w2.alloc (.cells L0.toArray 43)) := (Below.refl _ _).alloc (Nat.le_refl _) _
  have S3 := Lib.hid (And.intro (X2.out.1.on K3) (And.intro (bthen X2.out.2.1 K3) (And.intro (Nat.le_trans X2.out.2.2 K3.size) OW.out)))
  clear OW K3
  generalize hW : w2.alloc (.cells L0.toArray 43) = w3 at *
  clear hW
  generalize w2.heap.size = b0 at *
  refine (HRl.out w3 ((HRd.out.below S3.out.2.1).more S3.out.2.1.size)).mono ?_
  rintro e w4 ⟨V7, rfl, hlv, hb4⟩
  obtain ⟨A7, c7, rfl⟩ := own_slice hlv
  have S4 := Lib.hid (show ScSt w w4 m (.slice A7 P c7) (.slice (some ⟨b0, 0, none⟩) 1 1) (.slice none 0 0) P (1 + 0) (64 * 0) (Tbl.lfsOf (Tbl.padT xs) m.gen P) (L0 ++ pgcs ((lvs (Tbl.padT xs) m.gen P).take 0)) (((lvs (Tbl.padT xs) m.gen P).take 0).flatten) from ⟨S3.out.1.on hb4, bthen S3.out.2.1 hb4, Nat.le_trans S3.out.2.2.1 hb4.size, own_base0 hlv S3.out.2.2.1, by have h := own_below S3.out.2.2.2 hb4; simpa using h, World.ownsRow_nil _ _ _ _⟩)
  clear hlv hb4 S3 X2 cg HRl HRd
  generalize lvs (Tbl.padT xs) m.gen P = lv at *
  generalize hls : Tbl.lfsOf (Tbl.padT xs) m.gen P = ls at *
  have HLa : Hid (∀ k, k < P → ls[k]? = some (Tbl.lfOf (Tbl.padT xs) m.gen k)) := Lib.hid (by subst hls; exact fun k hk => lfsOf_get hk)
  clear hls
  go_wp2
  go_loopw [5, 6, 8] (fun o a i wr => ∃ k : Nat, k ≤ P ∧ i = .int .i64 k ∧ ScSt w wr m (.slice A7 P c7) o a P (1 + k) (64 * k) ls (L0 ++ pgcs (lv.take k)) ((lv.take k).flatten)) (fun _ _ i _ => P - (intOf i).toNat)
  case atStart => exact ⟨0, by omega, rfl, S4.out⟩
  case round =>
    clear S4
    obtain ⟨k, hk, rfl, hst⟩ := hrel
    have HS := Lib.hid hst
    clear hst
    by_cases hlt : k < P
    · have HKf := Lib.hid (HLf.out k hlt)
      obtain ⟨ad, rfl, hld⟩ := big_elem Tryz.prog (w := wr) (m := ml) (f := lcs) (Rd.own HS.out.lv) (fun y hy => (lcs_length (HI.out y hy)).trans HM.out.2.2.symm) (by omega) k _ (HLa.out k hlt)
      have HSk := Lib.hid (HSn.out k hlt)
      have hki : (k : Int) < (P : Int) := by omega
      generalize Tbl.lfOf (Tbl.padT xs) m.gen k = lf at *
      go_wp2_with fail
      refine (rlay7_any lf wr HKf.out.1 HKf.out.2).mono ?_
      rintro e w5 ⟨rfl, hb5⟩
      have S5 := Lib.hid (HS.out.on hb5)
      have HOb : Hid (∀ g, u5.ownBlock = some g → g < w5.heap.size) := Lib.hid fun g hg => (S5.out.out.lt g hg).2
      have HPl : Hid ((Leaf.layL lf).length = 64 ∧ octets (Leaf.layL lf)) := Lib.hid ⟨Leaf.layL_length _ HKf.out.2, Leaf.layL_octets _⟩
      clear hb5 hld HS
      generalize hpp : Leaf.layL lf = p at *
      clear hpp
      have HL1 : Hid ((bs p).length = 64 ∧ ∀ u ∈ bs p, u.oneCell' = true) := Lib.hid ⟨by rw [bs_length]; exact HPl.out.1, fun u hu => bs_one _ _ hu⟩
      go_wp2_with (first
        | ((with_reducible refine wpList_pg_alloc (o := ⟨some 9, .alloc _, _, _, _, _⟩) rfl rfl ?_); intro w6 x6 hB6 hs6; clear hs6)
        | ((with_reducible refine wpList_pg_store (o := ⟨none, .store _ (.tmp 9) _, _, _, _, _⟩) rfl _ _ rfl w5.heap.size p pg0 HPl.out.1 rfl rfl rfl x6 ?_); go_loud (intro w7 x7 hg7 _; have K7 := below_stored hB6 hg7 hB6.size (Nat.le_refl _); have S7 := Lib.hid (S5.out.on K7); have l7 := big_load0 Tryz.prog w5.heap.size 0 (bs p) m6 (by rw [bs_length, HPl.out.1, HM.out.1]) _ x7.range0; have X7 := Lib.hid x7; have hle7 := S7.out.le; clear hB6 x6 hg7 K7 S5 x7; generalize w5.heap.size = bp at *))
        | ((with_reducible refine wpList_pg_slice1 (o := ⟨some 31, .buildSlice _ _ _, _, _, _, _⟩) rfl _ rfl (bs p) HL1.out.1 rfl ?_))
        | (at_builtin; go_loud (refine wpList_append_new _ rfl _ _ _ rfl (w.heap.size + 1) 43 _ 64 64 elemP u5 _ _ rfl (bs p) rfl S7.out.out HL1.out.1 HL1.out.2 (by have := HPn.out; simp only [maxLen]; omega) (by have := HPn.out; omega) hle7 ?_); go_loud (intro v1 w8 hown1 hg1; have S8 := Lib.hid (S7.out.add (k' := 1 + (k + 1)) (os' := L0 ++ pgcs (lv.take (k + 1))) (by rw [HSk.out, pgcs_snoc, ← List.append_assoc, show 1 + (k + 1) = 1 + k + 1 by omega]; exact hown1) hg1); have X8 := Lib.hid (X7.out.same (hg1.block bp X7.out.lt fun e => by have := HOb.out bp e.symm; omega)); clear hown1 hg1 l7 S7 X7 HOb))
        | fail)
      go_loopw [6, 10] (fun a i wr2 => ∃ j : Nat, j ≤ 64 ∧ i = .int .i64 j ∧ ScSt w wr2 m (.slice (some ad) P c7) v1 a P (1 + (k + 1)) (64 * k + j) ls (L0 ++ pgcs (lv.take (k + 1))) ((lv.take k).flatten ++ p.take j) ∧ Box wr2 bp 43 (bs p)) (fun _ i _ => 64 - (intOf i).toNat)
      case atStart => exact ⟨0, by omega, rfl, by have h := S8.out; simpa using h, X8.out⟩
      case round =>
        clear S8 X8
        obtain ⟨j, hj, rfl, hst, hxb⟩ := hrel
        have HS := Lib.hid (And.intro hst hxb)
        clear hst hxb
        by_cases hjl : j < 64
        · have hji : (j : Int) < 64 := by omega
          have cp : wr.cell? ⟨bp, j, none⟩ = some (.int .u8 (p.getD j 0)) := (HS.out.2.cell j).trans (bs_get (by rw [HPl.out.1]; exact hjl))
          have HTk : Hid (p.take (j + 1) = p.take j ++ [p.getD j 0]) := Lib.hid (by
            have h1 : j < p.length := by rw [HPl.out.1]; exact hjl
            rw [List.take_succ_eq_append_getElem h1, List.getD_eq_getElem?_getD, List.getElem?_eq_getElem h1]
            rfl)
          have hlew := HS.out.1.le
          generalize p.getD j 0 = z at *
          go_wp2_with (first
            | (at_builtin; go_loud (refine wpList_append_one _ rfl _ _ _ rfl (w.heap.size + 1) 5 _ 1 elem8 u6 (64 * k + j) _ rfl (.int .u8 z) rfl HS.out.1.all rfl (by have := HPn.out; simp only [maxLen]; omega) (by have := HPn.out; omega) hlew ?_); go_loud (intro v2 w9 hown2 hg2; have S9 := Lib.hid (HS.out.1.byte (j' := 64 * k + (j + 1)) (zs' := (lv.take k).flatten ++ p.take (j + 1)) (by rw [HTk.out, ← List.append_assoc, ← bs_snoc]; exact hown2) hg2); have X9 := Lib.hid (box_far HS.out.2 HS.out.1.all hg2 (by decide)); clear hown2 hg2 HS))
            | fail)
          go_roundw
          case rel => exact ⟨j + 1, by omega, by go_num, S9.out, X9.out⟩
          case measure => simp [intOf]; omega
        · obtain rfl : j = 64 := by omega
          have HE : Hid ((lv.take k).flatten ++ p.take 64 = (lv.take (k + 1)).flatten) := Lib.hid (by rw [HSk.out, List.flatten_append, List.take_of_length_le (l := p) (by rw [HPl.out.1]; exact Nat.le_refl _)]; simp)
          have S9 := Lib.hid HS.out.1
          rw [HE.out, show 64 * k + 64 = 64 * (k + 1) by omega] at S9
          clear HS
          go_wp2
          go_roundw
          case rel => exact ⟨k + 1, by omega, by go_num, S9.out⟩
          case measure => simp [intOf]; omega
    · obtain rfl : P = k := by omega
      have HS2 : Hid (ScSt w wr m (.slice A7 P c7) u5 u6 P (1 + P) (64 * P) ls (L0 ++ pgcs lv) lv.flatten) := Lib.hid (by
        have h := HS.out
        rwa [List.take_of_length_le (by rw [HLv.out.2.2.1]; exact Nat.le_refl _)] at h)
      clear HS HLf HLa HSn HI
      obtain ⟨A6, c6, rfl⟩ := own_slice HS2.out.all
      have c0 : wr.cell? ⟨w.heap.size, 0, none⟩ = some (.bool m.foot) := HS2.out.mb.cell 0
      have f0 := HS2.out.mb.frozen 0
      have S3 := Lib.hid (HS2.out.cell (m' := ⟨true, m.gen, m.epoch, m.seq, m.pages, m.sum⟩) 0 (.bool true) rfl)
      have HOc : Hid (octets lv.flatten ∧ lv.flatten.length = 64 * P) := Lib.hid ⟨HLv.out.2.1.flat, by have h := S3.out.all.1; rw [bs_length] at h; omega⟩
      go_wp2_with fail
      clear c0 f0 HS2
      generalize World.setCell wr _ _ = w3 at S3 ⊢
      refine (rsum_any A6 (64 * P) c6 lv.flatten w3 (by have := HPn.out; omega) HOc.out.2 HOc.out.1 (Rd.own S3.out.all)).mono ?_
      rintro e w4 ⟨rfl, hb4⟩
      have S4 := Lib.hid (S3.out.on hb4)
      have c5 : w4.cell? ⟨w.heap.size, 5, none⟩ = some (.int .u32 m.sum) := S4.out.mb.cell 5
      have f5 := S4.out.mb.frozen 5
      have S5 := Lib.hid (S4.out.cell (m' := footOf m lv) 5 (.int .u32 ((Crc.sum lv.flatten : Nat) : Int)) rfl)
      have hldm := LA.out _ _ _ S5.out.mb
      clear hb4 S3
      generalize footOf m lv = ft at *
      go_wp2_with fail
      clear c5 f5 S4 hldm
      generalize World.setCell w4 _ _ = w5 at S5 ⊢
      refine (rlay8_any ft w5 HLv.out.2.2.2.1 HLv.out.2.2.2.2).mono ?_
      rintro e w6 ⟨rfl, hb6⟩
      have S6 := Lib.hid (S5.out.on hb6)
      have HL1 : Hid ((bs (Mast.layL ft)).length = 64 ∧ ∀ u ∈ bs (Mast.layL ft), u.oneCell' = true) := Lib.hid ⟨by rw [bs_length]; exact Mast.layL_length _, fun u hu => bs_one _ _ hu⟩
      clear hb6 S5
      generalize bs (Mast.layL ft) = L1 at *
      have hle6 := S6.out.le
      go_wp2_with (first
        | ((with_reducible refine wpList_pg_slice1 (o := ⟨some 50, .buildSlice _ _ _, _, _, _, _⟩) rfl _ rfl L1 HL1.out.1 rfl ?_))
        | (at_builtin; go_loud (refine wpList_append_new _ rfl _ _ _ rfl (w.heap.size + 1) 43 _ 64 64 elemP u5 _ _ rfl L1 rfl S6.out.out HL1.out.1 HL1.out.2 (by have := HPn.out; simp only [maxLen]; omega) (by have := HPn.out; omega) hle6 ?_); go_loud (intro v2 w9 hown9 hg9; have O9 := Lib.hid (And.intro hown9 (S6.out.add hown9 hg9).bl); clear hown9 hg9))
        | fail)
      go_ret
      refine ⟨v2, rfl, ?_, O9.out.2⟩
      rw [HSe.out, show P + 2 = 1 + P + 1 by omega]
      exact own_base0 O9.out.1 (Nat.le_succ _)
end Go.Proofs.YtgnpohkippegpaaGreat

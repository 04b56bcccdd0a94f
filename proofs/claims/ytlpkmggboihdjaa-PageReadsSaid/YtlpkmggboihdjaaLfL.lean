/-
  The document's answers for layer 7: Lay.
-/
import Derived.Test.YtlpkmggboihdjaaLfG
import Derived.Test.YtlpkmggboihdjaaLfJ
namespace Go.Proofs.Ytlpkmggboihdjaa
open Go.RowKit Word Crc Leaf
set_option linter.unusedVariables false

theorem TwoBx.grew {w W W' : World} {T U : TypeId} {cs ds : List Value} (h : TwoBx w W T cs U ds) (hb : Below (w.heap.size + 2) W W') : TwoBx w W' T cs U ds := ⟨h.1.below hb (by omega), h.2.1.below hb (by omega), h.2.2.1.trans (hb.mono (by omega)), Nat.le_trans h.2.2.2 hb.size⟩
theorem layL_pad (l : Lf) (h : In l) : sealed (pad ([128] ++ le 8 l.gen ++ le 4 l.index ++ flat l.places)) = layL l := by
  unfold In at h
  have e : pad ([128] ++ le 8 l.gen ++ le 4 l.index ++ flat l.places) = front l := by
    have hl : (([128] : List Int) ++ le 8 l.gen ++ le 4 l.index ++ flat l.places).length = 53 := by simp [le_length, flat_length, h]
    unfold pad front
    rw [hl]
    simp only [List.append_assoc]
  rw [e]
  rfl

set_option maxRecDepth 100000 in
set_option maxHeartbeats 4000000 in
theorem rlay7_any (l : Lf) (w : World) (hk : Ok l) (hi : In l) :
    Calls Try.prog 12 #[.agg (lcs l).toArray] w fun e w' => e = .returned (.agg (bs (layL l)).toArray) ∧ Below w.heap.size w w' := by
  obtain ⟨m, hm, hsz⟩ := big_size (P := Try.prog) (t := 28) (s := 64) (by kernel_rfl)
  have hm0 : ¬ m = 0 := by omega
  have HM := Lib.hid hm
  have HI := Lib.hid hi
  have HK := Lib.hid hk
  clear hm hi hk
  go_enter Try.func12, Try.ntmps12
  go_wp2_with (first
    | ((with_reducible refine wpList_lf_box (o := ⟨some 1, .box _ _, _, _, _, _⟩) rfl _ rfl l rfl ?_); intro w1 x0 hB1 hs1)
    | ((with_reducible refine wpList_pg_alloc (o := ⟨some 2, .alloc _, _, _, _, _⟩) rfl rfl ?_); intro w2 x1 hB2 hs2; have L := TwoBx.start x0 hB1 hs1 x1 hB2 hs2; rw [hs1]; clear hs1 hs2 x0 x1 hB1 hB2; have L' := L.on ((Below.refl _ _).alloc (Nat.le_refl _) (.cells (bs [128]).toArray 5 (0, 0))); have c1 : (w2.alloc (.cells #[.int .u8 128] 5)).cell? ⟨w.heap.size, 0, none⟩ = some (.int .i64 l.gen) := L'.1.lf.1)
    | fail)
  have hown := own_base0 (lit_own (w := w2) [128] 1 rfl (by decide)) L.2.2.2
  clear L
  change (w2.alloc (.cells #[.int .u8 128] 5)).ownsRow _ _ _ _ _ _ at hown
  change TwoBx w (w2.alloc (.cells #[.int .u8 128] 5)) _ _ _ _ at L'
  generalize w2.heap.size = b3 at *
  generalize w2.alloc _ = w3 at *
  rename TwoBx w w3 _ _ _ _ => L
  -- gen
  refine (rlow7_any l.gen 8 w3 (by have := HK.out.1; omega) (by have := HK.out.1; omega) (by omega)).mono ?_
  rintro e w4 ⟨V, rfl, hlow, hb⟩
  obtain ⟨A, cc, hv⟩ := own_slice hlow
  rw [hv] at hlow ⊢
  clear hv
  have hown' := own_below hown hb
  have hr : Rd w4 w4.heap.size A (bs (le 8 l.gen)) := Rd.own hlow
  replace L := L.on hb
  have HB := L.2.2.2
  have HL := Lib.hid L
  clear hown hlow hb L c1
  rename w4.ownsRow _ _ _ _ _ _ => hown
  go_wp2_with (first
    | (at_builtin; go_loud (refine wpList_append_rd _ rfl _ _ _ rfl (w.heap.size + 2) 5 _ 1 1 elem8 (.slice (some ⟨b3, 0, none⟩) 1 1) 1 (bs ([128])) rfl hown w4.heap.size A 8 cc (bs (le 8 l.gen)) rfl (by rw [bs_length, le_length]) hr (bs_one _) (by unfold maxLen; omega) (by omega) HB ?_); intro v0 w5 hown0 hg0 _; have L := HL.out.grew ((Below.refl _ _).grown hg0 HB fun g hg => (hown.lt g hg).1); have c1 := L.1.lf.2)
    | fail)
  clear hg0 hown hr HL HB
  rename w5.ownsRow _ _ _ _ _ _ => hown
  rw [← bs_append] at hown
  -- index
  refine (rlow7_any l.index 4 w5 (by have := HK.out.2.1; omega) (by have := HK.out.2.1; omega) (by omega)).mono ?_
  rintro e w6 ⟨V, rfl, hlow, hb⟩
  obtain ⟨A, cc, hv⟩ := own_slice hlow
  rw [hv] at hlow ⊢
  clear hv
  have hown' := own_below hown hb
  have hr : Rd w6 w6.heap.size A (bs (le 4 l.index)) := Rd.own hlow
  replace L := L.on hb
  have HB := L.2.2.2
  have HL := Lib.hid L
  clear hown hlow hb L c1
  rename w6.ownsRow _ _ _ _ _ _ => hown
  go_wp2_with (first
    | (at_builtin; go_loud (refine wpList_append_rd _ rfl _ _ _ rfl (w.heap.size + 2) 5 _ 1 1 elem8 v0 9 (bs ([128] ++ le 8 l.gen)) rfl hown w6.heap.size A 4 cc (bs (le 4 l.index)) rfl (by rw [bs_length, le_length]) hr (bs_one _) (by unfold maxLen; omega) (by omega) HB ?_); intro v1 w7 hown1 hg1 _; have L := HL.out.grew ((Below.refl _ _).grown hg1 HB fun g hg => (hown.lt g hg).1))
    | fail)
  clear hg1 hown hr HL HB
  rename w7.ownsRow _ _ _ _ _ _ => hown
  rw [← bs_append] at hown
  have HP := Lib.hid (layL_pad l HI.out)
  have HZl := Lib.hid (show (([128] : List Int) ++ le 8 l.gen ++ le 4 l.index).length = 13 by simp [le_length])
  have HZo := Lib.hid (show octets (([128] : List Int) ++ le 8 l.gen ++ le 4 l.index ++ flat l.places) from Rec.octets_append (Rec.octets_append (Rec.octets_append (fun z hz => by simp at hz; omega) (le_bytes _ _)) (le_bytes _ _)) (flat_octets _))
  have HIn0 := Lib.hid (And.intro L hown)
  clear L hown
  generalize [128] ++ le 8 l.gen ++ le 4 l.index = zs at *
  -- the places
  go_loopw [3, 4] (fun o i wr => ∃ k : Nat, k ≤ 10 ∧ i = .int .i64 k ∧ TwoBx w wr 24 (lcs l) 28 (bs pg0) ∧ wr.ownsRow (w.heap.size + 2) 5 1 o (13 + 4 * k) (bs (zs ++ flat (l.places.take k)))) (fun _ i _ => 10 - (intOf i).toNat)
  case atStart => exact ⟨0, by omega, rfl, HIn0.out.1, by simpa [flat] using HIn0.out.2⟩
  case round =>
    clear HIn0
    obtain ⟨k, hk, rfl, L, hown⟩ := hrel
    by_cases hlt : k < 10
    · have hkl : k < l.places.length := by rw [HI.out]; exact hlt
      have cx := L.1.lfPlace hkl
      have hpl := HK.out.2.2 _ (getD_mem hkl)
      have HT := Lib.hid (show bs (zs ++ flat (l.places.take (k + 1))) = bs (zs ++ flat (l.places.take k)) ++ bs (le 4 (l.places.getD k 0)) by
        rw [flat_snoc _ _ hkl, ← List.append_assoc, bs_append _ (le 4 _)])
      have HX := Lib.hid (And.intro L hown)
      clear L hown hkl
      generalize l.places.getD k 0 = x at cx hpl HT
      have HPl := Lib.hid hpl
      clear hpl
      go_wp2_with fail
      refine (rlow7_any x 4 wr (by have := HPl.out; omega) (by have := HPl.out; omega) (by omega)).mono ?_
      rintro e w8 ⟨V, rfl, hlow, hb⟩
      obtain ⟨A, cc, hv⟩ := own_slice hlow
      rw [hv] at hlow ⊢
      clear hv cx
      have hown := own_below HX.out.2 hb
      have hr : Rd w8 w8.heap.size A (bs (le 4 x)) := Rd.own hlow
      have L := HX.out.1.on hb
      have HB := L.2.2.2
      have HL := Lib.hid L
      clear hlow hb L HX
      go_wp2_with (first
        | (at_builtin; go_loud (refine wpList_append_rd _ rfl _ _ _ rfl (w.heap.size + 2) 5 _ 1 1 elem8 u3 (13 + 4 * k) (bs (zs ++ flat (l.places.take k))) rfl hown w8.heap.size A 4 cc (bs (le 4 x)) rfl (by rw [bs_length, le_length]) hr (bs_one _) (by unfold maxLen; omega) (by omega) HB ?_); intro v2 w9 hown2 hg2 _; have HL2 := Lib.hid (HL.out.grew ((Below.refl _ _).grown hg2 HB fun g hg => (hown.lt g hg).1)); have HO2 := Lib.hid hown2)
        | fail)
      go_roundw
      case rel => exact ⟨k + 1, by omega, by go_num, HL2.out, by rw [HT.out, show 13 + 4 * (k + 1) = 13 + 4 * k + 4 by omega]; exact HO2.out⟩
      case measure => simp [intOf]; omega
    · obtain rfl : k = 10 := by omega
      rw [List.take_of_length_le (by rw [HI.out]; exact Nat.le_refl _)] at hown
      obtain ⟨A, cc, hv⟩ := own_slice hown
      rw [hv] at hown ⊢
      clear hv
      have HL := Lib.hid L
      have HF := Lib.hid (rfull_any (w.heap.size + 2) A 53 cc (zs ++ flat l.places) wr (by omega) HZo.out L.2.2.2 hown)
      rw [HP.out] at HF
      clear L hown
      rw [show 13 + 4 * 10 = 53 from rfl]
      go_wp2_with fail
      refine HF.out.mono ?_
      rintro e w8 ⟨rfl, hb8⟩
      have HL8 := Lib.hid (HL.out.grew hb8)
      have HX8 := Lib.hid HL8.out.2.1
      have HSL := Lib.hid (layL_length l HI.out)
      clear HL HF hb8
      go_wp2_with (first
        | ((with_reducible refine wpList_pg_store (o := ⟨none, .store _ _ _, _, _, _, _⟩) rfl _ _ rfl (w.heap.size + 1) (layL l) pg0 HSL.out rfl rfl rfl HX8.out ?_); intro w9 hb9 hg9 _)
        | fail)
      have hldF := big_load0 Try.prog (w.heap.size + 1) 0 (bs (layL l)) m (by rw [bs_length, HSL.out, HM.out]) _ hb9.range0
      generalize hR : bs (layL l) = R at hldF ⊢
      exact bodyPost_ret (v := .agg R.toArray) (by simp [results, Try.results12, go_sem, hsz, hldF]) rfl ⟨rfl, below_stored HL8.out.2.2.1 hg9 HL8.out.2.2.1.size (by omega)⟩
end Go.Proofs.Ytlpkmggboihdjaa

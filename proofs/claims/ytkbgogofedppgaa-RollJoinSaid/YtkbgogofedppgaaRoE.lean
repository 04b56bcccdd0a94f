/-
  Package roll: Do, and the document's answer for it.
-/
import Derived.Test.YtkbgogofedppgaaRoC
namespace Go.Proofs.Ytkbgogofedppgaa
open Go.RowKit Word Rec Scan Roll Leaf
set_option linter.unusedVariables false

theorem doS_take {P : List Int} {l : List Gp} {k : Nat} {g : Gp} (h : l[k]? = some g) : doS P (l.take (k + 1)) = doG (doS P (l.take k)) g := by
  obtain ⟨hk, rfl⟩ := List.getElem?_eq_some_iff.1 h
  rw [List.take_succ_eq_append_getElem hk, doS_snoc]
theorem fold_take {α β : Type} {f : α → β → α} {a : α} {l : List β} {k : Nat} {x : β} (h : l[k]? = some x) : (l.take (k + 1)).foldl f a = f ((l.take k).foldl f a) x := by
  obtain ⟨hk, rfl⟩ := List.getElem?_eq_some_iff.1 h
  rw [List.take_succ_eq_append_getElem hk, List.foldl_append]
  rfl
theorem map_g_at {L : List Gv} {k : Nat} {x : Gv} (h : L[k]? = some x) : (L.map Gv.g)[k]? = some x.g := by rw [List.getElem?_map, h]; rfl
set_option maxRecDepth 100000 in
set_option maxHeartbeats 4000000 in
theorem do_any (A : Option Addr) (len cap : Nat) (ps : List Int) (G : Option Addr) (gn gcap : Nat) (L : List Gv) (w : World) (hl : ps.length = len) (hm : len ≤ 1000) (hgl : L.length = gn) (hgm : gn ≤ maxLen) (hcm : ∀ x ∈ L, x.g.ch.length ≤ maxLen)
    (hr : Rd w w.heap.size A (is ps)) (hg : GRd w w.heap.size G L) :
    Calls Try.prog 10 #[.slice A len cap, .slice G gn gcap] w fun e w' => ∃ V, e = .returned V ∧ w'.ownsRow w.heap.size 3 1 V len (is (doS ps (L.map Gv.g))) ∧ Below w.heap.size w w' := by
  have HC := Lib.hid (jclone_any A len cap ps w (by omega) hl hr)
  have HL := Lib.hid hl
  have HG := Lib.hid (And.intro hgl (And.intro hcm hg))
  unfold maxLen at hgm
  clear hl hgl hcm hr hg
  go_enter Try.func10, Try.ntmps10
  go_wp2_with fail
  refine HC.out.mono ?_
  rintro e w1 ⟨V, rfl, hown, hb1⟩
  obtain ⟨Av, cv, rfl⟩ := own_slice hown
  have HO1 := Lib.hid (And.intro hown hb1)
  clear hown hb1 HC
  go_wp2
  go_loopw [14] (fun i wr => ∃ k : Nat, k ≤ gn ∧ i = .int .i64 k ∧ wr.ownsRow w.heap.size 3 1 (.slice Av len cv) len (is (doS ps ((L.map Gv.g).take k))) ∧ Below w.heap.size w wr) (fun i _ => gn - (intOf i).toNat)
  case atStart => exact ⟨0, by omega, rfl, HO1.out.1, HO1.out.2⟩
  case round =>
    obtain ⟨k, hk, rfl, hown, hbl⟩ := hrel
    have HO := Lib.hid (And.intro hown hbl)
    clear hown hbl HO1
    by_cases hlt : k < gn
    · have hkl : k < L.length := by rw [HG.out.1]; exact hlt
      obtain ⟨x, hx⟩ : ∃ x, L[k]? = some x := ⟨_, List.getElem?_eq_getElem hkl⟩
      have hxm := List.mem_of_getElem? hx
      obtain ⟨ad, rfl, hadb, c0, c1, c2⟩ := gv_at (HG.out.2.2.below HO.out.2).1 hx
      have HX := Lib.hid (HG.out.2.1 x hxm)
      have HXR := Lib.hid (HG.out.2.2.2 x hxm)
      have HD := Lib.hid (doS_take (P := ps) (map_g_at hx))
      obtain ⟨⟨own, sq, ch⟩, xA, xc⟩ := x
      simp only [Gv.v] at c0 c1 c2
      have hki : (k : Int) < (gn : Int) := by omega
      clear hx hxm hkl
      have hcx : ch.length ≤ 9223372036854775807 := HX.out
      have hB0 := HO.out.2.alloc HO.out.2.size (.cells #[.bool own, .int .i64 sq, .slice xA ch.length xc] 28)
      have hO0 := own_below HO.out.1 ((Below.refl wr.heap.size wr).alloc (Nat.le_refl _) (.cells #[.bool own, .int .i64 sq, .slice xA ch.length xc] 28))
      have HO0 := Lib.hid (And.intro hO0 hB0)
      clear hO0 hB0
      generalize hcl : ch.length = cn at *
      have HCL := Lib.hid hcl
      clear hcl
      go_wp2
      generalize doS ps (List.take k (List.map Gv.g L)) = P at *
      go_loopw [21] (fun j w2 => ∃ y : Nat, y ≤ cn ∧ j = .int .i64 y ∧ w2.ownsRow w.heap.size 3 1 (.slice Av len cv) len (is ((ch.take y).foldl doC P)) ∧ Below w.heap.size w w2) (fun j _ => cn - (intOf j).toNat)
      case atStart => exact ⟨0, by omega, rfl, HO0.out.1, HO0.out.2⟩
      case round =>
        obtain ⟨y, hy, rfl, hown, hbl⟩ := hrel
        have HY := Lib.hid (And.intro hown hbl)
        clear hown hbl HO0
        by_cases hly : y < cn
        · have hyl : y < ch.length := by rw [HCL.out]; exact hly
          obtain ⟨c, hc⟩ : ∃ c, ch[y]? = some c := ⟨_, List.getElem?_eq_getElem hyl⟩
          obtain ⟨ad2, rfl, hb2, d0, d1⟩ := ch_at (HXR.out.below HY.out.2) hc
          have HT := Lib.hid (fold_take (f := doC) (a := P) hc)
          obtain ⟨cb, cp⟩ := c
          simp only at d0 d1
          have hyi : (y : Int) < (cn : Int) := by omega
          have HPl := Lib.hid (show (List.foldl doC P (List.take y ch)).length = len by
            have h1 := HY.out.1.1
            rw [is_length, Nat.mul_one] at h1
            exact h1)
          clear hc hyl
          generalize List.foldl doC P (List.take y ch) = R at *
          by_cases h0 : 0 ≤ cb
          · by_cases h1 : cb < len
            · obtain ⟨b, rfl⟩ : ∃ b : Nat, cb = b := ⟨cb.toNat, by omega⟩
              have hbl : b < len := by omega
              obtain ⟨g, rfl, hgB, hgl⟩ := own_at HY.out.1 (by omega)
              have HE := Lib.hid (show List.foldl doC P (List.take (y + 1) ch) = R.set b cp by
                rw [HT.out]
                unfold doC
                rw [if_pos ⟨h0, by rw [HPl.out]; exact h1⟩]
                rfl)
              clear HT
              go_wp2_with (first
                | ((with_reducible refine wpList_alloc_box _ (o := ⟨some 9, .alloc _, _, _, _, _⟩) rfl _ rfl (hcs ⟨0, 0⟩) zero_ch ?_); intro w8 x8 B8 s8; clear s8)
                | ((with_reducible refine wpList_store_var _ (o := ⟨none, .store _ _ _, _, _, _, _⟩) rfl 44 _ _ rfl wr.heap.size (hcs ⟨(b : Int), cp⟩) (hcs ⟨0, 0⟩) (ch_size _) rfl (hcs_one _) rfl rfl x8 ?_); go_loud (intro w9 x9 g9; have K9 := below_stored B8 g9 B8.size (Nat.le_refl _); obtain ⟨k0, k1⟩ := x9.ch; have H9 := Lib.hid (And.intro (own_below HY.out.1 K9) (bthen HY.out.2 K9)); obtain ⟨z0, e0⟩ : ∃ z, w9.cell? ⟨g, b, none⟩ = some (.int .i64 z) := ⟨_, (H9.out.1.cellAt b (by omega)).trans (is_get (by rw [HPl.out]; exact hbl))⟩; have f0 := H9.out.1.frozenAt b; have HS := Lib.hid (H9.out.1.stored b (.int .i64 cp)); clear x8 B8 g9 K9 x9; generalize wr.heap.size = bx at *))
                | fail)
              go_roundw
              case rel =>
                refine ⟨y + 1, by omega, by go_num, ?_, below_stored H9.out.2 HS.out.2 H9.out.2.size hgB⟩
                rw [HE.out, is_set]
                exact HS.out.1
              case measure => first | (simp [intOf]; done) | (simp [intOf]; omega)
            · have HE := Lib.hid (show List.foldl doC P (List.take (y + 1) ch) = R by
                rw [HT.out]
                unfold doC
                rw [if_neg (by rw [HPl.out]; show ¬ (0 ≤ cb ∧ cb < (len : Int)); omega)])
              clear HT
              go_wp2_with (first
                | ((with_reducible refine wpList_alloc_box _ (o := ⟨some 9, .alloc _, _, _, _, _⟩) rfl _ rfl (hcs ⟨0, 0⟩) zero_ch ?_); intro w8 x8 B8 s8; clear s8)
                | ((with_reducible refine wpList_store_var _ (o := ⟨none, .store _ _ _, _, _, _, _⟩) rfl 44 _ _ rfl wr.heap.size (hcs ⟨cb, cp⟩) (hcs ⟨0, 0⟩) (ch_size _) rfl (hcs_one _) rfl rfl x8 ?_); go_loud (intro w9 x9 g9; have K9 := below_stored B8 g9 B8.size (Nat.le_refl _); obtain ⟨k0, k1⟩ := x9.ch; have H9 := Lib.hid (And.intro (own_below HY.out.1 K9) (bthen HY.out.2 K9)); clear x8 B8 g9 K9 x9; generalize wr.heap.size = bx at *))
                | fail)
              go_roundw
              case rel => exact ⟨y + 1, by omega, by go_num, by rw [HE.out]; exact H9.out.1, H9.out.2⟩
              case measure => first | (simp [intOf]; done) | (simp [intOf]; omega)
          · have HE := Lib.hid (show List.foldl doC P (List.take (y + 1) ch) = R by
              rw [HT.out]
              unfold doC
              rw [if_neg (by rw [HPl.out]; show ¬ (0 ≤ cb ∧ cb < (len : Int)); omega)])
            clear HT
            go_wp2_with (first
              | ((with_reducible refine wpList_alloc_box _ (o := ⟨some 9, .alloc _, _, _, _, _⟩) rfl _ rfl (hcs ⟨0, 0⟩) zero_ch ?_); intro w8 x8 B8 s8; clear s8)
              | ((with_reducible refine wpList_store_var _ (o := ⟨none, .store _ _ _, _, _, _, _⟩) rfl 44 _ _ rfl wr.heap.size (hcs ⟨cb, cp⟩) (hcs ⟨0, 0⟩) (ch_size _) rfl (hcs_one _) rfl rfl x8 ?_); go_loud (intro w9 x9 g9; have K9 := below_stored B8 g9 B8.size (Nat.le_refl _); obtain ⟨k0, k1⟩ := x9.ch; have H9 := Lib.hid (And.intro (own_below HY.out.1 K9) (bthen HY.out.2 K9)); clear x8 B8 g9 K9 x9; generalize wr.heap.size = bx at *))
              | fail)
            go_roundw
            case rel => exact ⟨y + 1, by omega, by go_num, by rw [HE.out]; exact H9.out.1, H9.out.2⟩
            case measure => first | (simp [intOf]; done) | (simp [intOf]; omega)
        · obtain rfl : cn = y := by omega
          go_wp2
          go_roundw
          case rel =>
            refine ⟨k + 1, by omega, by go_num, ?_, HY.out.2⟩
            rw [HD.out]
            have h := HY.out.1
            rw [List.take_of_length_le (by rw [HCL.out]; exact Nat.le_refl _)] at h
            exact h
          case measure => first | (simp [intOf]; done) | (simp [intOf]; omega)
    · obtain rfl : gn = k := by omega
      have HE := Lib.hid (show (L.map Gv.g).take gn = L.map Gv.g from List.take_of_length_le (by rw [List.length_map, HG.out.1]; exact Nat.le_refl _))
      go_wp2
      go_ret
      exact ⟨_, rfl, by rw [HE.out] at HO; exact HO.out.1, HO.out.2⟩
end Go.Proofs.Ytkbgogofedppgaa

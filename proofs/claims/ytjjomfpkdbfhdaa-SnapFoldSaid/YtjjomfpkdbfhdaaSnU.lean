/-
  The law Fold of layer 17.
-/
import Derived.Test.YtjjomfpkdbfhdaaSnT
namespace Go.Proofs.Ytjjomfpkdbfhdaa
open Go.RowKit Word Snap
set_option linter.unusedVariables false

theorem wpList_old_build2 {w : World} {ops : Array Oper} {rest : List Oper} {o : Oper} {a : Act} {Q : Exit → Act → World → Prop} (hgd : o.guard = none) (x0 x1 : Operand) (ho : o.op = .build 38 #[(0, x0), (1, x1)]) (b : Int) (hh : Bool) (h0 : a.eval x0 = .int .i64 b) (h1 : a.eval x1 = .bool hh)
    (h : wpList Try.prog ops Q rest (a.put o.dst (.agg (ocs ⟨b, hh, d32⟩).toArray)) w) : wpList Try.prog ops Q (o :: rest) a w := by
  refine wpList_plain hgd fun K hK => ?_
  unfold Oper.wp
  simp [execOp, ho, h0, h1, run_build_old2 w b hh, Result.andThen]
  exact hK _ _ h
theorem addr_off (a : Addr) (j : Nat) (hj : j ≠ 0) : a.add j = ⟨a.block, a.off + j, none⟩ := by
  unfold Addr.add
  rw [if_neg hj]
theorem addr_none (a : Addr) : a.add 0 = a := by
  unfold Addr.add
  rw [if_pos rfl]
theorem data_eql (xs ys : List Int) (hx : xs.length = 32) (hy : ys.length = 32) {W : World} : (binOp .eql 36 (.agg (bs xs).toArray) (.agg (bs ys).toArray)).run Try.prog W = .ok (.bool (xs == ys)) W :=
  big_eql (P := Try.prog) W 36 _ 32 .u8 Try.underlying36 Try.underlying5 osize_u8 xs ys hx hy
theorem old_data {w : World} {b m : Nat} {T : TypeId} {o : Ol} (h : Box w b T (ocs o)) (hi : OIn o) (hm : m = 32) : (loadCellsFrom ⟨b, 2, none⟩ 0 m #[]).run Try.prog w = .ok (bs o.data).toArray w :=
  big_load0 Try.prog b 2 (bs o.data) m (by rw [bs_length, hi.1, hm]) w (h.range 2 _ fun j v hj => by
    rw [Nat.add_comm]
    exact hj)
theorem n8_len : (ols n8).length = 272 := ols8_len (by simp) fun o ho => by rw [List.eq_of_mem_replicate ho]; exact ol0_in
theorem ols_cell8 {N : List Ol} {k j : Nat} {v : Value} (hin : ∀ o ∈ N, OIn o) (hk : k < N.length) (hv : (ocs (at8 N k))[j]? = some v) : (ols N)[k * 34 + j]? = some v := by
  refine ols_at hin (o := at8 N k) ?_ hv
  unfold at8
  rw [List.getD_eq_getElem?_getD, List.getElem?_eq_getElem hk]
  rfl
theorem data_size {o : Ol} (h : OIn o) : (Try.prog.info? 36).map (·.size) = some (bs o.data).length := by rw [bs_length, h.1]; kernel_rfl
theorem at8_set_data {N : List Ol} {b : Nat} {o : Ol} {data : List Int} (h : b < (N.set b o).length) : (N.set b o).set b ⟨((N.set b o)[b]'h).b, ((N.set b o)[b]'h).has, data⟩ = N.set b ⟨o.b, o.has, data⟩ := by simp
set_option maxRecDepth 100000 in
set_option maxHeartbeats 4000000 in
theorem snlaw_fold (A : Option Addr) (n cap : Nat) (l : List Sp) (y t : Int) (w : World) (hy : 0 ≤ y ∧ y ≤ 255) (ht : 0 ≤ t ∧ t ≤ 255) (hn : n ≤ maxLen) (hl : l.length = n) (hin : ∀ s ∈ l, SIn s) (hr : Rd w w.heap.size A (spls l)) :
    Calls Try.prog 4 #[.slice A n cap, .int .u8 y, .int .u8 t] w fun e w' => e = .returned (.bool true) ∧ Below w.heap.size w w' := by
  have QW := Lib.hid fun w' => awake17_any w'
  have HN := Lib.hid (And.intro hl (And.intro hin hr))
  unfold maxLen at hn
  clear hl hin hr
  go_enter Try.func4, Try.ntmps4
  go_wp2_with fail
  refine (QW.out _).mono ?_
  rintro e w1 ⟨rfl, hb1⟩
  have H1 := Lib.hid hb1
  clear hb1
  by_cases hfew : (n : Int) ≤ 80
  · have hfd : decide ((80 : Int) < (n : Int)) = false := decide_eq_false (by omega)
    have hfd2 : decide (80 < n) = false := decide_eq_false (by omega)
    obtain ⟨m3, hm3, hsz⟩ := big_size (P := Try.prog) (t := 38) (s := 34) (by kernel_rfl)
    obtain ⟨m8, hm8, hs8⟩ := big_size (P := Try.prog) (t := 48) (s := 272) (by kernel_rfl)
    obtain ⟨m2, hm2, hs2⟩ := big_size (P := Try.prog) (t := 36) (s := 32) (by kernel_rfl)
    have hm30 : ¬ m3 = 0 := by omega
    have hm80 : ¬ m8 = 0 := by omega
    have hm20 : ¬ m2 = 0 := by omega
    have HM := Lib.hid (And.intro hm3 (And.intro hm8 hm2))
    clear hm3 hm8 hm2
    go_wp2_with fail
    refine (snew_any _).mono ?_
    rintro e w3 ⟨d, b, c, rfl, hs, q1, q2, q3, hb⟩
    have H3 : Hid (Own w w3 d b c 0 [] 0) := Lib.hid ⟨hs, Nat.le_trans H1.out.size q1, Nat.le_trans H1.out.size q2, Nat.le_trans H1.out.size q3, bthen H1.out hb⟩
    clear hs q1 q2 q3 hb
    have HN8 := Lib.hid n8_len
    go_wp2_with (first
      | ((with_reducible refine wpList_alloc_box _ (o := ⟨some 8, .alloc _, _, _, _, _⟩) rfl _ rfl (ols n8) zero_now ?_); go_loud (intro w4 x4 hB4 hs4; have H4 : Hid (FoSt w w4 d b c 0 w3.heap.size (w3.heap.size + 1) (.slice none 0 0) (.slice none 0 0) n8 [] [] []) := Lib.hid ⟨H3.out.on hB4, x4, World.ownsRow_nil _ _ _ _, World.ownsRow_nil _ _ _ _, Nat.lt_succ_self _, H3.out.below.size, by omega⟩; have hld8 : (loadCellsFrom ⟨w3.heap.size, 0, none⟩ 0 m8 #[]).run Try.prog w4 = .ok (ols n8).toArray w4 := big_load0 Try.prog w3.heap.size 0 (ols n8) m8 (by rw [HN8.out, HM.out.2.1]) w4 x4.range0; clear x4 hB4 hs4; generalize w3.heap.size + 1 = base at *; generalize w3.heap.size = nb at *))
      | ((with_reducible refine wpList_slice_one _ (o := ⟨some 30, .buildSlice _ _ _, _, _, _, _⟩) rfl 49 48 _ rfl _ 272 384 elemW (by decide) (ols n8) HN8.out rfl ?_))
      | (at_builtin; go_loud (refine wpList_append_tell _ rfl _ _ _ rfl base 48 _ 272 384 elemW (.slice none 0 0) 0 [] rfl (ols n8) rfl H4.out.ws HN8.out (ols_one _) (by decide) (by decide) H4.out.big ?_); go_loud (intro V9 w5 hown5 hg5 _; have H5 : Hid (FoSt w w5 d b c 0 nb base V9 (.slice none 0 0) n8 [n8] [] []) := Lib.hid (H4.out.grew (H := []) hown5 hg5); clear hown5 hg5 hld8))
      | fail)
    go_loopw [9, 10, 11] (fun V9 V10 i wr => ∃ (k M : Nat) (N P : List Ol) (H all : List (List Ol)), k ≤ n ∧ i = .int .i64 k ∧ M + P.length ≤ k ∧ all.length ≤ k ∧ (k = n → P = []) ∧ Fold N H P all ∧ FoSt w wr d b c M nb base V9 V10 N H P all) (fun _ _ i _ => n - (intOf i).toNat)
    case atStart => exact ⟨0, 0, n8, [], [n8], [], Nat.zero_le _, rfl, Nat.le_refl _, Nat.le_refl _, fun _ => rfl, Fold.start, H5.out⟩
    case round =>
      obtain ⟨k, M, N, P, H, all, hk, rfl, hMP, hal, hPn, hF, hst⟩ := hrel
      have HF := Lib.hid hF
      have HS := Lib.hid hst
      have HPn := Lib.hid hPn
      obtain ⟨A9, c9, e9⟩ := own_slice hst.ws
      obtain ⟨A10, c10, e10⟩ := own_slice hst.op
      subst e9 e10
      clear hF hst hPn H5
      by_cases hlt : k < n
      · have hki : (k : Int) < (n : Int) := by omega
        have hkl : k < l.length := by rw [HN.out.1]; exact hlt
        have hlk : l[k]? = some (l[k]'hkl) := List.getElem?_eq_getElem hkl
        obtain ⟨ad, rfl, hadb, hcat⟩ := sp_at (HN.out.2.2.below HS.out.sn.below) HN.out.2.1 hlk
        have hsin := HN.out.2.1 _ (List.getElem_mem hkl)
        have hcell : ∀ w', Below w.heap.size w w' → ∀ j v, (spcs (l[k]'hkl))[j]? = some v → w'.cell? ((ad.add (k * 35)).add j) = some v := fun w' hb j v hv => by
          obtain ⟨ad', e', _, h⟩ := sp_at (HN.out.2.2.below hb) HN.out.2.1 hlk
          obtain rfl : ad = ad' := by injection e'
          exact h j v hv
        generalize l[k]'hkl = sp at *
        obtain ⟨sb, sd, stm, smo⟩ := sp
        have hadd := addr_off (ad.add (k * 35))
        have hadd0 := addr_none (ad.add (k * 35))
        have HStp : Hid (∀ w', Below w.heap.size w w' → w'.cell? (ad.add (k * 35)) = some (.int .u8 sb) ∧ (loadCellsFrom ⟨(ad.add (k * 35)).block, (ad.add (k * 35)).off + 1, none⟩ 0 m2 #[]).run Try.prog w' = .ok (bs sd).toArray w' ∧ w'.cell? ⟨(ad.add (k * 35)).block, (ad.add (k * 35)).off + 33, none⟩ = some (.bool stm) ∧ w'.cell? ⟨(ad.add (k * 35)).block, (ad.add (k * 35)).off + 34, none⟩ = some (.bool smo)) := Lib.hid fun w' hb => by
          refine ⟨by rw [← hadd0]; exact hcell w' hb 0 _ rfl, ?_, by rw [← hadd 33 (by decide)]; exact hcell w' hb 33 _ (spcs_trim hsin), by rw [← hadd 34 (by decide)]; exact hcell w' hb 34 _ (spcs_more hsin)⟩
          refine big_load Try.prog _ (bs sd) m2 (by rw [bs_length, hsin.1, HM.out.2.2]) w' fun j v hv => ?_
          rw [← hadd 1 (by decide), addr_add_add, addr_add_add, ← addr_add_add]
          exact hcell w' hb (1 + j) v (spcs_data hsin hv)
        obtain ⟨s0, s1, s2, s3⟩ := HStp.out wr HS.out.sn.below
        have hex : ∃ bk : Nat, bk < 8 ∧ sb % 8 = (bk : Int) := ⟨(sb % 8).toNat, by have := hsin.2; omega, by have := hsin.2; omega⟩
        obtain ⟨bk, hbk, hsb⟩ := hex
        have hsb0 : 0 ≤ sb := hsin.2.1
        have hsb1 : sb ≤ 255 := hsin.2.2
        have hbk0 : (0 : Int) ≤ (bk : Int) := by omega
        have hbk8 : (bk : Int) < 8 := by omega
        have hwb := IntWalk.i64_in (bk : Int) (by omega)
        have HB64 : Hid ((Lit.int .i64 (bk : Int)).wf = true) := Lib.hid (w64_of (by omega) (by omega))
        have HAt := Lib.hid (at8_in (b := bk) HF.out.ni)
        have HTo := Lib.hid (told_in HF.out.ni hbk)
        have hldb : (loadCellsFrom ⟨nb, bk * m3, none⟩ 0 m3 #[]).run Try.prog wr = .ok (ocs (at8 N bk)).toArray wr := by
          refine big_load0 Try.prog nb (bk * m3) (ocs (at8 N bk)) m3 (by rw [ocs_len HAt.out, HM.out.1]) wr (HS.out.nw.range _ _ fun j v hv => ?_)
          rw [HM.out.1]
          exact ols_cell8 HF.out.ni (by rw [HF.out.nl]; exact hbk) hv
        have HMid : Hid (∀ hh : Bool, bk * m3 + (ocs ⟨(bk : Int), hh, d32⟩).length ≤ (ols N).length) := Lib.hid fun hh => by rw [ols8_len HF.out.nl HF.out.ni, ocs_len ⟨by simp, HB64.out⟩, HM.out.1]; omega
        have HLn : Hid (bk < (N.set bk ⟨(bk : Int), true, d32⟩).length) := Lib.hid (by rw [List.length_set, HF.out.nl]; exact hbk)
        have HMid2 : Hid (bk * m3 + 2 + (bs sd).length ≤ (ols (N.set bk ⟨(bk : Int), true, d32⟩)).length) := Lib.hid (by rw [ols8_len (by rw [List.length_set]; exact HF.out.nl) (in_set HF.out.ni ⟨by simp, HB64.out⟩), bs_length, hsin.1, HM.out.1]; omega)
        have HDsz : Hid ((Try.prog.info? 36).map (·.size) = some (bs sd).length) := Lib.hid (by rw [bs_length, hsin.1]; kernel_rfl)
        clear hcat hcell hadd hadd0 hlk hkl
        cases stm
        · cases smo
          · have HWr := Lib.hid (HF.out.write hbk (o := ⟨(bk : Int), true, sd⟩) ⟨hsin.1, HB64.out⟩)
            go_wp2_with (first
              | ((with_reducible refine wpList_ol_alloc (o := ⟨some 13, .alloc _, _, _, _, _⟩) rfl rfl ?_); intro w5 x5 hB5 hs5; clear hs5)
              | ((with_reducible refine wpList_ol_store (o := ⟨none, .store _ (.tmp 13) _, _, _, _, _⟩) rfl _ _ rfl wr.heap.size (at8 N bk) ol0 HAt.out ol0_in rfl rfl x5 ?_); go_loud (intro w6 x6 hg6 _; have K6 := below_stored hB5 hg6 hB5.size (Nat.le_refl _); have K7 : Below wr.heap.size wr (w6.setCell ⟨wr.heap.size, 0, none⟩ (.int .i64 (bk : Int))) := K6.setCell (Nat.le_refl _) _; have H6 := Lib.hid (HS.out.on K7); have hc0 : w6.cell? ⟨wr.heap.size, 0, none⟩ = some (.int .i64 (at8 N bk).b) := x6.cell 0; have hf0 : w6.frozen? ⟨wr.heap.size, 0, none⟩ = false := x6.frozen 0; have hld13 : (loadCellsFrom ⟨wr.heap.size, 0, none⟩ 0 m3 #[]).run Try.prog (w6.setCell ⟨wr.heap.size, 0, none⟩ (.int .i64 (bk : Int))) = .ok (ocs (told N bk)).toArray (w6.setCell ⟨wr.heap.size, 0, none⟩ (.int .i64 (bk : Int))) := Box.olAll (o := told N bk) (x6.set 0 (.int .i64 (bk : Int))) HTo.out HM.out.1; clear x5 hB5 x6 hg6 K6 K7; generalize wr.heap.size = ob at *))
              | ((with_reducible refine wpList_slice_one _ (o := ⟨some 52, .buildSlice _ _ _, _, _, _, _⟩) rfl 31 38 _ rfl _ 34 48 elemO (by decide) (ocs (told N bk)) (ocs_len HTo.out) rfl ?_))
              | (at_builtin; go_loud (refine wpList_append_tell _ rfl _ _ _ rfl base 38 _ 34 48 elemO (.slice A10 P.length c10) P.length (ols P) rfl (ocs (told N bk)) rfl H6.out.op (ocs_len HTo.out) (ocs_one _) (by unfold maxLen; omega) (by omega) H6.out.big ?_); go_loud (intro V7 w7 hown7 hg7 _; have H7 := Lib.hid (H6.out.opened hown7 hg7); obtain ⟨s0, s1, s2, s3⟩ := HStp.out w7 H7.out.sn.below; clear hown7 hg7 hld13 hc0 hf0))
              | ((with_reducible refine wpList_old_build2 (o := ⟨some 62, .build _ _, _, _, _, _⟩) rfl _ _ rfl (bk : Int) true rfl rfl ?_))
              | ((with_reducible show wpList _ _ _ ((⟨none, .store _ (.tmp 63) _, _, _, _, _⟩ : Oper) :: _) _ _); (refine wpList_store_midbox _ (o := ⟨none, .store _ (.tmp 63) _, _, _, _, _⟩) rfl 38 _ _ rfl nb (bk * m3) 48 (ols N) (ocs ⟨(bk : Int), true, d32⟩) (ol_size ⟨by simp, HB64.out⟩) (HMid.out _) (ocs_one _) rfl rfl H7.out.nw ?_); go_loud (intro w8 x8 hg8 hs8; clear hs8; have H8 : Hid (FoSt w w8 d b c M nb base (.slice A9 H.length c9) V7 (N.set bk ⟨(bk : Int), true, d32⟩) H (P ++ [told N bk]) all) := Lib.hid (H7.out.now (by rw [HM.out.1, ols_lay ⟨by simp, HB64.out⟩ N bk (by rw [HF.out.nl]; exact hbk) HF.out.ni] at x8; exact x8) hg8); obtain ⟨s0, s1, s2, s3⟩ := HStp.out w8 H8.out.sn.below; clear x8 hg8))
              | ((with_reducible show wpList _ _ _ ((⟨none, .store _ (.tmp 77) _, _, _, _, _⟩ : Oper) :: _) _ _); (refine wpList_store_midbox _ (o := ⟨none, .store _ (.tmp 77) _, _, _, _, _⟩) rfl 36 _ _ rfl nb (bk * m3 + 2) 48 (ols (N.set bk ⟨(bk : Int), true, d32⟩)) (bs sd) HDsz.out HMid2.out (bs_one _) rfl rfl H8.out.nw ?_); go_loud (intro w9 x9 hg9 hs9; clear hs9; have H9 : Hid (FoSt w w9 d b c M nb base (.slice A9 H.length c9) V7 (N.set bk ⟨(bk : Int), true, sd⟩) H (P ++ [told N bk]) all) := Lib.hid (H8.out.now (by rw [HM.out.1, ols_lay_data hsin.1 (N.set bk ⟨(bk : Int), true, d32⟩) bk HLn.out (in_set HF.out.ni ⟨by simp, HB64.out⟩), at8_set_data] at x9; exact x9) hg9); obtain ⟨s0, s1, s2, s3⟩ := HStp.out w9 H9.out.sn.below; clear x9 hg9))
              | fail)
            have hown10 := H9.out.op
            obtain ⟨A7, c7, e7⟩ := own_slice hown10
            have HP7 := Lib.hid e7
            subst e7
            clear hown10 HP7 s0 s1 s2 s3
            refine (commit_any d b c M all 0 A7 (P ++ [told N bk]).length c7 (P ++ [told N bk]) w9 H9.out.sn.sn rfl HWr.out.pi H9.out.opRd (by simp; omega) (by omega)).mono ?_
            rintro e w10 ⟨rfl, hs, hf⟩
            have H10 : Hid (FoSt w w10 d b c (M + (P ++ [told N bk]).length) nb base (.slice A9 H.length c9) (.slice none 0 0) (N.set bk ⟨(bk : Int), true, sd⟩) H [] (all ++ [P ++ [told N bk]])) := Lib.hid (H9.out.commit hs hf)
            clear hs hf
            have hl8 := Lib.hid (ols8_len HWr.out.nl HWr.out.ni)
            have hld8 : (loadCellsFrom ⟨nb, 0, none⟩ 0 m8 #[]).run Try.prog w10 = .ok (ols (N.set bk ⟨(bk : Int), true, sd⟩)).toArray w10 := big_load0 Try.prog nb 0 (ols (N.set bk ⟨(bk : Int), true, sd⟩)) m8 (by rw [hl8.out, HM.out.2.1]) w10 H10.out.nw.range0
            go_wp2_with (first
              | ((with_reducible refine wpList_slice_one _ (o := ⟨some 96, .buildSlice _ _ _, _, _, _, _⟩) rfl 49 48 _ rfl _ 272 384 elemW (by decide) (ols (N.set bk ⟨(bk : Int), true, sd⟩)) hl8.out rfl ?_))
              | (at_builtin; go_loud (refine wpList_append_tell _ rfl _ _ _ rfl base 48 _ 272 384 elemW (.slice A9 H.length c9) H.length (wls H) rfl (ols (N.set bk ⟨(bk : Int), true, sd⟩)) rfl H10.out.ws hl8.out (ols_one _) (by have := HF.out.len; unfold maxLen; omega) (by have := HF.out.len; omega) H10.out.big ?_); go_loud (intro V11 w11 hown11 hg11 _; have H11 := Lib.hid (H10.out.grew hown11 hg11); clear hown11 hg11 hld8))
              | fail)
            go_roundw
            case rel => exact ⟨k + 1, _, _, [], _, _, by omega, by go_num, by simp; omega, by simp; omega, fun _ => rfl, HWr.out.commit, H11.out⟩
            case measure => first | (simp [intOf]; done) | (simp [intOf]; omega)
          · by_cases hls : k = n - 1
            · have HLs := Lib.hid hls
              have hls2 : ((k : Int) == (n : Int) - 1) = true := by simp; omega
              have hnw := IntWalk.i64_in ((n : Int) - 1) (by omega)
              clear hls
              have HWr := Lib.hid (HF.out.write hbk (o := ⟨(bk : Int), true, sd⟩) ⟨hsin.1, HB64.out⟩)
              go_wp2_with (first
                | ((with_reducible refine wpList_ol_alloc (o := ⟨some 13, .alloc _, _, _, _, _⟩) rfl rfl ?_); intro w5 x5 hB5 hs5; clear hs5)
                | ((with_reducible refine wpList_ol_store (o := ⟨none, .store _ (.tmp 13) _, _, _, _, _⟩) rfl _ _ rfl wr.heap.size (at8 N bk) ol0 HAt.out ol0_in rfl rfl x5 ?_); go_loud (intro w6 x6 hg6 _; have K6 := below_stored hB5 hg6 hB5.size (Nat.le_refl _); have K7 : Below wr.heap.size wr (w6.setCell ⟨wr.heap.size, 0, none⟩ (.int .i64 (bk : Int))) := K6.setCell (Nat.le_refl _) _; have H6 := Lib.hid (HS.out.on K7); have hc0 : w6.cell? ⟨wr.heap.size, 0, none⟩ = some (.int .i64 (at8 N bk).b) := x6.cell 0; have hf0 : w6.frozen? ⟨wr.heap.size, 0, none⟩ = false := x6.frozen 0; have hld13 : (loadCellsFrom ⟨wr.heap.size, 0, none⟩ 0 m3 #[]).run Try.prog (w6.setCell ⟨wr.heap.size, 0, none⟩ (.int .i64 (bk : Int))) = .ok (ocs (told N bk)).toArray (w6.setCell ⟨wr.heap.size, 0, none⟩ (.int .i64 (bk : Int))) := Box.olAll (o := told N bk) (x6.set 0 (.int .i64 (bk : Int))) HTo.out HM.out.1; clear x5 hB5 x6 hg6 K6 K7; generalize wr.heap.size = ob at *))
                | ((with_reducible refine wpList_slice_one _ (o := ⟨some 52, .buildSlice _ _ _, _, _, _, _⟩) rfl 31 38 _ rfl _ 34 48 elemO (by decide) (ocs (told N bk)) (ocs_len HTo.out) rfl ?_))
                | (at_builtin; go_loud (refine wpList_append_tell _ rfl _ _ _ rfl base 38 _ 34 48 elemO (.slice A10 P.length c10) P.length (ols P) rfl (ocs (told N bk)) rfl H6.out.op (ocs_len HTo.out) (ocs_one _) (by unfold maxLen; omega) (by omega) H6.out.big ?_); go_loud (intro V7 w7 hown7 hg7 _; have H7 := Lib.hid (H6.out.opened hown7 hg7); obtain ⟨s0, s1, s2, s3⟩ := HStp.out w7 H7.out.sn.below; clear hown7 hg7 hld13 hc0 hf0))
                | ((with_reducible refine wpList_old_build2 (o := ⟨some 62, .build _ _, _, _, _, _⟩) rfl _ _ rfl (bk : Int) true rfl rfl ?_))
                | ((with_reducible show wpList _ _ _ ((⟨none, .store _ (.tmp 63) _, _, _, _, _⟩ : Oper) :: _) _ _); (refine wpList_store_midbox _ (o := ⟨none, .store _ (.tmp 63) _, _, _, _, _⟩) rfl 38 _ _ rfl nb (bk * m3) 48 (ols N) (ocs ⟨(bk : Int), true, d32⟩) (ol_size ⟨by simp, HB64.out⟩) (HMid.out _) (ocs_one _) rfl rfl H7.out.nw ?_); go_loud (intro w8 x8 hg8 hs8; clear hs8; have H8 : Hid (FoSt w w8 d b c M nb base (.slice A9 H.length c9) V7 (N.set bk ⟨(bk : Int), true, d32⟩) H (P ++ [told N bk]) all) := Lib.hid (H7.out.now (by rw [HM.out.1, ols_lay ⟨by simp, HB64.out⟩ N bk (by rw [HF.out.nl]; exact hbk) HF.out.ni] at x8; exact x8) hg8); obtain ⟨s0, s1, s2, s3⟩ := HStp.out w8 H8.out.sn.below; clear x8 hg8))
                | ((with_reducible show wpList _ _ _ ((⟨none, .store _ (.tmp 77) _, _, _, _, _⟩ : Oper) :: _) _ _); (refine wpList_store_midbox _ (o := ⟨none, .store _ (.tmp 77) _, _, _, _, _⟩) rfl 36 _ _ rfl nb (bk * m3 + 2) 48 (ols (N.set bk ⟨(bk : Int), true, d32⟩)) (bs sd) HDsz.out HMid2.out (bs_one _) rfl rfl H8.out.nw ?_); go_loud (intro w9 x9 hg9 hs9; clear hs9; have H9 : Hid (FoSt w w9 d b c M nb base (.slice A9 H.length c9) V7 (N.set bk ⟨(bk : Int), true, sd⟩) H (P ++ [told N bk]) all) := Lib.hid (H8.out.now (by rw [HM.out.1, ols_lay_data hsin.1 (N.set bk ⟨(bk : Int), true, d32⟩) bk HLn.out (in_set HF.out.ni ⟨by simp, HB64.out⟩), at8_set_data] at x9; exact x9) hg9); obtain ⟨s0, s1, s2, s3⟩ := HStp.out w9 H9.out.sn.below; clear x9 hg9))
                | fail)
              have hown10 := H9.out.op
              obtain ⟨A7, c7, e7⟩ := own_slice hown10
              have HP7 := Lib.hid e7
              subst e7
              clear hown10 HP7 s0 s1 s2 s3
              refine (commit_any d b c M all 0 A7 (P ++ [told N bk]).length c7 (P ++ [told N bk]) w9 H9.out.sn.sn rfl HWr.out.pi H9.out.opRd (by simp; omega) (by omega)).mono ?_
              rintro e w10 ⟨rfl, hs, hf⟩
              have H10 : Hid (FoSt w w10 d b c (M + (P ++ [told N bk]).length) nb base (.slice A9 H.length c9) (.slice none 0 0) (N.set bk ⟨(bk : Int), true, sd⟩) H [] (all ++ [P ++ [told N bk]])) := Lib.hid (H9.out.commit hs hf)
              clear hs hf
              have hl8 := Lib.hid (ols8_len HWr.out.nl HWr.out.ni)
              have hld8 : (loadCellsFrom ⟨nb, 0, none⟩ 0 m8 #[]).run Try.prog w10 = .ok (ols (N.set bk ⟨(bk : Int), true, sd⟩)).toArray w10 := big_load0 Try.prog nb 0 (ols (N.set bk ⟨(bk : Int), true, sd⟩)) m8 (by rw [hl8.out, HM.out.2.1]) w10 H10.out.nw.range0
              go_wp2_with (first
                | ((with_reducible refine wpList_slice_one _ (o := ⟨some 96, .buildSlice _ _ _, _, _, _, _⟩) rfl 49 48 _ rfl _ 272 384 elemW (by decide) (ols (N.set bk ⟨(bk : Int), true, sd⟩)) hl8.out rfl ?_))
                | (at_builtin; go_loud (refine wpList_append_tell _ rfl _ _ _ rfl base 48 _ 272 384 elemW (.slice A9 H.length c9) H.length (wls H) rfl (ols (N.set bk ⟨(bk : Int), true, sd⟩)) rfl H10.out.ws hl8.out (ols_one _) (by have := HF.out.len; unfold maxLen; omega) (by have := HF.out.len; omega) H10.out.big ?_); go_loud (intro V11 w11 hown11 hg11 _; have H11 := Lib.hid (H10.out.grew hown11 hg11); clear hown11 hg11 hld8))
                | fail)
              go_roundw
              case rel => exact ⟨k + 1, _, _, [], _, _, by omega, by go_num, by simp; omega, by simp; omega, fun _ => rfl, HWr.out.commit, H11.out⟩
              case measure => first | (simp [intOf]; done) | (simp [intOf]; omega)
            · have HLs : Hid (¬ k + 1 = n) := Lib.hid (by omega)
              have hls2 : ((k : Int) == (n : Int) - 1) = false := by simp; omega
              have hnw := IntWalk.i64_in ((n : Int) - 1) (by omega)
              clear hls
              have HWr := Lib.hid (HF.out.write hbk (o := ⟨(bk : Int), true, sd⟩) ⟨hsin.1, HB64.out⟩)
              go_wp2_with (first
                | ((with_reducible refine wpList_ol_alloc (o := ⟨some 13, .alloc _, _, _, _, _⟩) rfl rfl ?_); intro w5 x5 hB5 hs5; clear hs5)
                | ((with_reducible refine wpList_ol_store (o := ⟨none, .store _ (.tmp 13) _, _, _, _, _⟩) rfl _ _ rfl wr.heap.size (at8 N bk) ol0 HAt.out ol0_in rfl rfl x5 ?_); go_loud (intro w6 x6 hg6 _; have K6 := below_stored hB5 hg6 hB5.size (Nat.le_refl _); have K7 : Below wr.heap.size wr (w6.setCell ⟨wr.heap.size, 0, none⟩ (.int .i64 (bk : Int))) := K6.setCell (Nat.le_refl _) _; have H6 := Lib.hid (HS.out.on K7); have hc0 : w6.cell? ⟨wr.heap.size, 0, none⟩ = some (.int .i64 (at8 N bk).b) := x6.cell 0; have hf0 : w6.frozen? ⟨wr.heap.size, 0, none⟩ = false := x6.frozen 0; have hld13 : (loadCellsFrom ⟨wr.heap.size, 0, none⟩ 0 m3 #[]).run Try.prog (w6.setCell ⟨wr.heap.size, 0, none⟩ (.int .i64 (bk : Int))) = .ok (ocs (told N bk)).toArray (w6.setCell ⟨wr.heap.size, 0, none⟩ (.int .i64 (bk : Int))) := Box.olAll (o := told N bk) (x6.set 0 (.int .i64 (bk : Int))) HTo.out HM.out.1; clear x5 hB5 x6 hg6 K6 K7; generalize wr.heap.size = ob at *))
                | ((with_reducible refine wpList_slice_one _ (o := ⟨some 52, .buildSlice _ _ _, _, _, _, _⟩) rfl 31 38 _ rfl _ 34 48 elemO (by decide) (ocs (told N bk)) (ocs_len HTo.out) rfl ?_))
                | (at_builtin; go_loud (refine wpList_append_tell _ rfl _ _ _ rfl base 38 _ 34 48 elemO (.slice A10 P.length c10) P.length (ols P) rfl (ocs (told N bk)) rfl H6.out.op (ocs_len HTo.out) (ocs_one _) (by unfold maxLen; omega) (by omega) H6.out.big ?_); go_loud (intro V7 w7 hown7 hg7 _; have H7 := Lib.hid (H6.out.opened hown7 hg7); obtain ⟨s0, s1, s2, s3⟩ := HStp.out w7 H7.out.sn.below; clear hown7 hg7 hld13 hc0 hf0))
                | ((with_reducible refine wpList_old_build2 (o := ⟨some 62, .build _ _, _, _, _, _⟩) rfl _ _ rfl (bk : Int) true rfl rfl ?_))
                | ((with_reducible show wpList _ _ _ ((⟨none, .store _ (.tmp 63) _, _, _, _, _⟩ : Oper) :: _) _ _); (refine wpList_store_midbox _ (o := ⟨none, .store _ (.tmp 63) _, _, _, _, _⟩) rfl 38 _ _ rfl nb (bk * m3) 48 (ols N) (ocs ⟨(bk : Int), true, d32⟩) (ol_size ⟨by simp, HB64.out⟩) (HMid.out _) (ocs_one _) rfl rfl H7.out.nw ?_); go_loud (intro w8 x8 hg8 hs8; clear hs8; have H8 : Hid (FoSt w w8 d b c M nb base (.slice A9 H.length c9) V7 (N.set bk ⟨(bk : Int), true, d32⟩) H (P ++ [told N bk]) all) := Lib.hid (H7.out.now (by rw [HM.out.1, ols_lay ⟨by simp, HB64.out⟩ N bk (by rw [HF.out.nl]; exact hbk) HF.out.ni] at x8; exact x8) hg8); obtain ⟨s0, s1, s2, s3⟩ := HStp.out w8 H8.out.sn.below; clear x8 hg8))
                | ((with_reducible show wpList _ _ _ ((⟨none, .store _ (.tmp 77) _, _, _, _, _⟩ : Oper) :: _) _ _); (refine wpList_store_midbox _ (o := ⟨none, .store _ (.tmp 77) _, _, _, _, _⟩) rfl 36 _ _ rfl nb (bk * m3 + 2) 48 (ols (N.set bk ⟨(bk : Int), true, d32⟩)) (bs sd) HDsz.out HMid2.out (bs_one _) rfl rfl H8.out.nw ?_); go_loud (intro w9 x9 hg9 hs9; clear hs9; have H9 : Hid (FoSt w w9 d b c M nb base (.slice A9 H.length c9) V7 (N.set bk ⟨(bk : Int), true, sd⟩) H (P ++ [told N bk]) all) := Lib.hid (H8.out.now (by rw [HM.out.1, ols_lay_data hsin.1 (N.set bk ⟨(bk : Int), true, d32⟩) bk HLn.out (in_set HF.out.ni ⟨by simp, HB64.out⟩), at8_set_data] at x9; exact x9) hg9); obtain ⟨s0, s1, s2, s3⟩ := HStp.out w9 H9.out.sn.below; clear x9 hg9))
                | fail)
              go_roundw
              case rel => exact ⟨k + 1, M, _, _, H, all, by omega, by go_num, by simp; omega, by omega, fun h => absurd h HLs.out, HWr.out, H9.out⟩
              case measure => first | (simp [intOf]; done) | (simp [intOf]; omega)
        · cases smo
          · have HWr := Lib.hid (HF.out.write hbk (o := ⟨(bk : Int), false, d32⟩) ⟨by simp, HB64.out⟩)
            go_wp2_with (first
              | ((with_reducible refine wpList_ol_alloc (o := ⟨some 13, .alloc _, _, _, _, _⟩) rfl rfl ?_); intro w5 x5 hB5 hs5; clear hs5)
              | ((with_reducible refine wpList_ol_store (o := ⟨none, .store _ (.tmp 13) _, _, _, _, _⟩) rfl _ _ rfl wr.heap.size (at8 N bk) ol0 HAt.out ol0_in rfl rfl x5 ?_); go_loud (intro w6 x6 hg6 _; have K6 := below_stored hB5 hg6 hB5.size (Nat.le_refl _); have K7 : Below wr.heap.size wr (w6.setCell ⟨wr.heap.size, 0, none⟩ (.int .i64 (bk : Int))) := K6.setCell (Nat.le_refl _) _; have H6 := Lib.hid (HS.out.on K7); have hc0 : w6.cell? ⟨wr.heap.size, 0, none⟩ = some (.int .i64 (at8 N bk).b) := x6.cell 0; have hf0 : w6.frozen? ⟨wr.heap.size, 0, none⟩ = false := x6.frozen 0; have hld13 : (loadCellsFrom ⟨wr.heap.size, 0, none⟩ 0 m3 #[]).run Try.prog (w6.setCell ⟨wr.heap.size, 0, none⟩ (.int .i64 (bk : Int))) = .ok (ocs (told N bk)).toArray (w6.setCell ⟨wr.heap.size, 0, none⟩ (.int .i64 (bk : Int))) := Box.olAll (o := told N bk) (x6.set 0 (.int .i64 (bk : Int))) HTo.out HM.out.1; clear x5 hB5 x6 hg6 K6 K7; generalize wr.heap.size = ob at *))
              | ((with_reducible refine wpList_slice_one _ (o := ⟨some 52, .buildSlice _ _ _, _, _, _, _⟩) rfl 31 38 _ rfl _ 34 48 elemO (by decide) (ocs (told N bk)) (ocs_len HTo.out) rfl ?_))
              | (at_builtin; go_loud (refine wpList_append_tell _ rfl _ _ _ rfl base 38 _ 34 48 elemO (.slice A10 P.length c10) P.length (ols P) rfl (ocs (told N bk)) rfl H6.out.op (ocs_len HTo.out) (ocs_one _) (by unfold maxLen; omega) (by omega) H6.out.big ?_); go_loud (intro V7 w7 hown7 hg7 _; have H7 := Lib.hid (H6.out.opened hown7 hg7); obtain ⟨s0, s1, s2, s3⟩ := HStp.out w7 H7.out.sn.below; clear hown7 hg7 hld13 hc0 hf0))
              | ((with_reducible refine wpList_old_build2 (o := ⟨some 62, .build _ _, _, _, _, _⟩) rfl _ _ rfl (bk : Int) false rfl rfl ?_))
              | ((with_reducible show wpList _ _ _ ((⟨none, .store _ (.tmp 63) _, _, _, _, _⟩ : Oper) :: _) _ _); (refine wpList_store_midbox _ (o := ⟨none, .store _ (.tmp 63) _, _, _, _, _⟩) rfl 38 _ _ rfl nb (bk * m3) 48 (ols N) (ocs ⟨(bk : Int), false, d32⟩) (ol_size ⟨by simp, HB64.out⟩) (HMid.out _) (ocs_one _) rfl rfl H7.out.nw ?_); go_loud (intro w8 x8 hg8 hs8; clear hs8; have H8 : Hid (FoSt w w8 d b c M nb base (.slice A9 H.length c9) V7 (N.set bk ⟨(bk : Int), false, d32⟩) H (P ++ [told N bk]) all) := Lib.hid (H7.out.now (by rw [HM.out.1, ols_lay ⟨by simp, HB64.out⟩ N bk (by rw [HF.out.nl]; exact hbk) HF.out.ni] at x8; exact x8) hg8); obtain ⟨s0, s1, s2, s3⟩ := HStp.out w8 H8.out.sn.below; clear x8 hg8))
              | fail)
            have hown10 := H8.out.op
            obtain ⟨A7, c7, e7⟩ := own_slice hown10
            have HP7 := Lib.hid e7
            subst e7
            clear hown10 HP7 s0 s1 s2 s3
            refine (commit_any d b c M all 0 A7 (P ++ [told N bk]).length c7 (P ++ [told N bk]) w8 H8.out.sn.sn rfl HWr.out.pi H8.out.opRd (by simp; omega) (by omega)).mono ?_
            rintro e w10 ⟨rfl, hs, hf⟩
            have H10 : Hid (FoSt w w10 d b c (M + (P ++ [told N bk]).length) nb base (.slice A9 H.length c9) (.slice none 0 0) (N.set bk ⟨(bk : Int), false, d32⟩) H [] (all ++ [P ++ [told N bk]])) := Lib.hid (H8.out.commit hs hf)
            clear hs hf
            have hl8 := Lib.hid (ols8_len HWr.out.nl HWr.out.ni)
            have hld8 : (loadCellsFrom ⟨nb, 0, none⟩ 0 m8 #[]).run Try.prog w10 = .ok (ols (N.set bk ⟨(bk : Int), false, d32⟩)).toArray w10 := big_load0 Try.prog nb 0 (ols (N.set bk ⟨(bk : Int), false, d32⟩)) m8 (by rw [hl8.out, HM.out.2.1]) w10 H10.out.nw.range0
            go_wp2_with (first
              | ((with_reducible refine wpList_slice_one _ (o := ⟨some 96, .buildSlice _ _ _, _, _, _, _⟩) rfl 49 48 _ rfl _ 272 384 elemW (by decide) (ols (N.set bk ⟨(bk : Int), false, d32⟩)) hl8.out rfl ?_))
              | (at_builtin; go_loud (refine wpList_append_tell _ rfl _ _ _ rfl base 48 _ 272 384 elemW (.slice A9 H.length c9) H.length (wls H) rfl (ols (N.set bk ⟨(bk : Int), false, d32⟩)) rfl H10.out.ws hl8.out (ols_one _) (by have := HF.out.len; unfold maxLen; omega) (by have := HF.out.len; omega) H10.out.big ?_); go_loud (intro V11 w11 hown11 hg11 _; have H11 := Lib.hid (H10.out.grew hown11 hg11); clear hown11 hg11 hld8))
              | fail)
            go_roundw
            case rel => exact ⟨k + 1, _, _, [], _, _, by omega, by go_num, by simp; omega, by simp; omega, fun _ => rfl, HWr.out.commit, H11.out⟩
            case measure => first | (simp [intOf]; done) | (simp [intOf]; omega)
          · by_cases hls : k = n - 1
            · have HLs := Lib.hid hls
              have hls2 : ((k : Int) == (n : Int) - 1) = true := by simp; omega
              have hnw := IntWalk.i64_in ((n : Int) - 1) (by omega)
              clear hls
              have HWr := Lib.hid (HF.out.write hbk (o := ⟨(bk : Int), false, d32⟩) ⟨by simp, HB64.out⟩)
              go_wp2_with (first
                | ((with_reducible refine wpList_ol_alloc (o := ⟨some 13, .alloc _, _, _, _, _⟩) rfl rfl ?_); intro w5 x5 hB5 hs5; clear hs5)
                | ((with_reducible refine wpList_ol_store (o := ⟨none, .store _ (.tmp 13) _, _, _, _, _⟩) rfl _ _ rfl wr.heap.size (at8 N bk) ol0 HAt.out ol0_in rfl rfl x5 ?_); go_loud (intro w6 x6 hg6 _; have K6 := below_stored hB5 hg6 hB5.size (Nat.le_refl _); have K7 : Below wr.heap.size wr (w6.setCell ⟨wr.heap.size, 0, none⟩ (.int .i64 (bk : Int))) := K6.setCell (Nat.le_refl _) _; have H6 := Lib.hid (HS.out.on K7); have hc0 : w6.cell? ⟨wr.heap.size, 0, none⟩ = some (.int .i64 (at8 N bk).b) := x6.cell 0; have hf0 : w6.frozen? ⟨wr.heap.size, 0, none⟩ = false := x6.frozen 0; have hld13 : (loadCellsFrom ⟨wr.heap.size, 0, none⟩ 0 m3 #[]).run Try.prog (w6.setCell ⟨wr.heap.size, 0, none⟩ (.int .i64 (bk : Int))) = .ok (ocs (told N bk)).toArray (w6.setCell ⟨wr.heap.size, 0, none⟩ (.int .i64 (bk : Int))) := Box.olAll (o := told N bk) (x6.set 0 (.int .i64 (bk : Int))) HTo.out HM.out.1; clear x5 hB5 x6 hg6 K6 K7; generalize wr.heap.size = ob at *))
                | ((with_reducible refine wpList_slice_one _ (o := ⟨some 52, .buildSlice _ _ _, _, _, _, _⟩) rfl 31 38 _ rfl _ 34 48 elemO (by decide) (ocs (told N bk)) (ocs_len HTo.out) rfl ?_))
                | (at_builtin; go_loud (refine wpList_append_tell _ rfl _ _ _ rfl base 38 _ 34 48 elemO (.slice A10 P.length c10) P.length (ols P) rfl (ocs (told N bk)) rfl H6.out.op (ocs_len HTo.out) (ocs_one _) (by unfold maxLen; omega) (by omega) H6.out.big ?_); go_loud (intro V7 w7 hown7 hg7 _; have H7 := Lib.hid (H6.out.opened hown7 hg7); obtain ⟨s0, s1, s2, s3⟩ := HStp.out w7 H7.out.sn.below; clear hown7 hg7 hld13 hc0 hf0))
                | ((with_reducible refine wpList_old_build2 (o := ⟨some 62, .build _ _, _, _, _, _⟩) rfl _ _ rfl (bk : Int) false rfl rfl ?_))
                | ((with_reducible show wpList _ _ _ ((⟨none, .store _ (.tmp 63) _, _, _, _, _⟩ : Oper) :: _) _ _); (refine wpList_store_midbox _ (o := ⟨none, .store _ (.tmp 63) _, _, _, _, _⟩) rfl 38 _ _ rfl nb (bk * m3) 48 (ols N) (ocs ⟨(bk : Int), false, d32⟩) (ol_size ⟨by simp, HB64.out⟩) (HMid.out _) (ocs_one _) rfl rfl H7.out.nw ?_); go_loud (intro w8 x8 hg8 hs8; clear hs8; have H8 : Hid (FoSt w w8 d b c M nb base (.slice A9 H.length c9) V7 (N.set bk ⟨(bk : Int), false, d32⟩) H (P ++ [told N bk]) all) := Lib.hid (H7.out.now (by rw [HM.out.1, ols_lay ⟨by simp, HB64.out⟩ N bk (by rw [HF.out.nl]; exact hbk) HF.out.ni] at x8; exact x8) hg8); obtain ⟨s0, s1, s2, s3⟩ := HStp.out w8 H8.out.sn.below; clear x8 hg8))
                | fail)
              have hown10 := H8.out.op
              obtain ⟨A7, c7, e7⟩ := own_slice hown10
              have HP7 := Lib.hid e7
              subst e7
              clear hown10 HP7 s0 s1 s2 s3
              refine (commit_any d b c M all 0 A7 (P ++ [told N bk]).length c7 (P ++ [told N bk]) w8 H8.out.sn.sn rfl HWr.out.pi H8.out.opRd (by simp; omega) (by omega)).mono ?_
              rintro e w10 ⟨rfl, hs, hf⟩
              have H10 : Hid (FoSt w w10 d b c (M + (P ++ [told N bk]).length) nb base (.slice A9 H.length c9) (.slice none 0 0) (N.set bk ⟨(bk : Int), false, d32⟩) H [] (all ++ [P ++ [told N bk]])) := Lib.hid (H8.out.commit hs hf)
              clear hs hf
              have hl8 := Lib.hid (ols8_len HWr.out.nl HWr.out.ni)
              have hld8 : (loadCellsFrom ⟨nb, 0, none⟩ 0 m8 #[]).run Try.prog w10 = .ok (ols (N.set bk ⟨(bk : Int), false, d32⟩)).toArray w10 := big_load0 Try.prog nb 0 (ols (N.set bk ⟨(bk : Int), false, d32⟩)) m8 (by rw [hl8.out, HM.out.2.1]) w10 H10.out.nw.range0
              go_wp2_with (first
                | ((with_reducible refine wpList_slice_one _ (o := ⟨some 96, .buildSlice _ _ _, _, _, _, _⟩) rfl 49 48 _ rfl _ 272 384 elemW (by decide) (ols (N.set bk ⟨(bk : Int), false, d32⟩)) hl8.out rfl ?_))
                | (at_builtin; go_loud (refine wpList_append_tell _ rfl _ _ _ rfl base 48 _ 272 384 elemW (.slice A9 H.length c9) H.length (wls H) rfl (ols (N.set bk ⟨(bk : Int), false, d32⟩)) rfl H10.out.ws hl8.out (ols_one _) (by have := HF.out.len; unfold maxLen; omega) (by have := HF.out.len; omega) H10.out.big ?_); go_loud (intro V11 w11 hown11 hg11 _; have H11 := Lib.hid (H10.out.grew hown11 hg11); clear hown11 hg11 hld8))
                | fail)
              go_roundw
              case rel => exact ⟨k + 1, _, _, [], _, _, by omega, by go_num, by simp; omega, by simp; omega, fun _ => rfl, HWr.out.commit, H11.out⟩
              case measure => first | (simp [intOf]; done) | (simp [intOf]; omega)
            · have HLs : Hid (¬ k + 1 = n) := Lib.hid (by omega)
              have hls2 : ((k : Int) == (n : Int) - 1) = false := by simp; omega
              have hnw := IntWalk.i64_in ((n : Int) - 1) (by omega)
              clear hls
              have HWr := Lib.hid (HF.out.write hbk (o := ⟨(bk : Int), false, d32⟩) ⟨by simp, HB64.out⟩)
              go_wp2_with (first
                | ((with_reducible refine wpList_ol_alloc (o := ⟨some 13, .alloc _, _, _, _, _⟩) rfl rfl ?_); intro w5 x5 hB5 hs5; clear hs5)
                | ((with_reducible refine wpList_ol_store (o := ⟨none, .store _ (.tmp 13) _, _, _, _, _⟩) rfl _ _ rfl wr.heap.size (at8 N bk) ol0 HAt.out ol0_in rfl rfl x5 ?_); go_loud (intro w6 x6 hg6 _; have K6 := below_stored hB5 hg6 hB5.size (Nat.le_refl _); have K7 : Below wr.heap.size wr (w6.setCell ⟨wr.heap.size, 0, none⟩ (.int .i64 (bk : Int))) := K6.setCell (Nat.le_refl _) _; have H6 := Lib.hid (HS.out.on K7); have hc0 : w6.cell? ⟨wr.heap.size, 0, none⟩ = some (.int .i64 (at8 N bk).b) := x6.cell 0; have hf0 : w6.frozen? ⟨wr.heap.size, 0, none⟩ = false := x6.frozen 0; have hld13 : (loadCellsFrom ⟨wr.heap.size, 0, none⟩ 0 m3 #[]).run Try.prog (w6.setCell ⟨wr.heap.size, 0, none⟩ (.int .i64 (bk : Int))) = .ok (ocs (told N bk)).toArray (w6.setCell ⟨wr.heap.size, 0, none⟩ (.int .i64 (bk : Int))) := Box.olAll (o := told N bk) (x6.set 0 (.int .i64 (bk : Int))) HTo.out HM.out.1; clear x5 hB5 x6 hg6 K6 K7; generalize wr.heap.size = ob at *))
                | ((with_reducible refine wpList_slice_one _ (o := ⟨some 52, .buildSlice _ _ _, _, _, _, _⟩) rfl 31 38 _ rfl _ 34 48 elemO (by decide) (ocs (told N bk)) (ocs_len HTo.out) rfl ?_))
                | (at_builtin; go_loud (refine wpList_append_tell _ rfl _ _ _ rfl base 38 _ 34 48 elemO (.slice A10 P.length c10) P.length (ols P) rfl (ocs (told N bk)) rfl H6.out.op (ocs_len HTo.out) (ocs_one _) (by unfold maxLen; omega) (by omega) H6.out.big ?_); go_loud (intro V7 w7 hown7 hg7 _; have H7 := Lib.hid (H6.out.opened hown7 hg7); obtain ⟨s0, s1, s2, s3⟩ := HStp.out w7 H7.out.sn.below; clear hown7 hg7 hld13 hc0 hf0))
                | ((with_reducible refine wpList_old_build2 (o := ⟨some 62, .build _ _, _, _, _, _⟩) rfl _ _ rfl (bk : Int) false rfl rfl ?_))
                | ((with_reducible show wpList _ _ _ ((⟨none, .store _ (.tmp 63) _, _, _, _, _⟩ : Oper) :: _) _ _); (refine wpList_store_midbox _ (o := ⟨none, .store _ (.tmp 63) _, _, _, _, _⟩) rfl 38 _ _ rfl nb (bk * m3) 48 (ols N) (ocs ⟨(bk : Int), false, d32⟩) (ol_size ⟨by simp, HB64.out⟩) (HMid.out _) (ocs_one _) rfl rfl H7.out.nw ?_); go_loud (intro w8 x8 hg8 hs8; clear hs8; have H8 : Hid (FoSt w w8 d b c M nb base (.slice A9 H.length c9) V7 (N.set bk ⟨(bk : Int), false, d32⟩) H (P ++ [told N bk]) all) := Lib.hid (H7.out.now (by rw [HM.out.1, ols_lay ⟨by simp, HB64.out⟩ N bk (by rw [HF.out.nl]; exact hbk) HF.out.ni] at x8; exact x8) hg8); obtain ⟨s0, s1, s2, s3⟩ := HStp.out w8 H8.out.sn.below; clear x8 hg8))
                | fail)
              go_roundw
              case rel => exact ⟨k + 1, M, _, _, H, all, by omega, by go_num, by simp; omega, by omega, fun h => absurd h HLs.out, HWr.out, H8.out⟩
              case measure => first | (simp [intOf]; done) | (simp [intOf]; omega)
      · obtain rfl : n = k := by omega
        obtain rfl : P = [] := HPn.out rfl
        have hlen := HF.out.len
        have hH0 : 0 < H.length := by omega
        obtain ⟨wg, rfl, hwgb, hwgl⟩ := own_at HS.out.ws hH0
        have hex : ∃ bk : Nat, bk < 8 ∧ y % 8 = (bk : Int) := ⟨(y % 8).toNat, by omega, by omega⟩
        obtain ⟨bk, hbk, hyb⟩ := hex
        have hex2 : ∃ nk : Nat, nk < H.length ∧ t % (H.length : Int) = (nk : Int) := ⟨(t % (H.length : Int)).toNat, by have h1 := Int.emod_lt_of_pos t (show (0 : Int) < (H.length : Int) by omega); have h2 := Int.emod_nonneg t (show (H.length : Int) ≠ 0 by omega); omega, by have h2 := Int.emod_nonneg t (show (H.length : Int) ≠ 0 by omega); omega⟩
        obtain ⟨nk, hnk, htn⟩ := hex2
        have hSk : ∃ S, H[nk]? = some S := ⟨_, List.getElem?_eq_getElem hnk⟩
        obtain ⟨S, hS⟩ := hSk
        have hSm := List.mem_of_getElem? hS
        have HE := Lib.hid (HF.out.ends hbk hnk)
        have hgS : H.getD nk [] = S := by rw [List.getD, hS]; rfl
        rw [hgS] at HE
        have HWt := Lib.hid (at8_in (b := bk) (HF.out.hi S hSm))
        have HNw := Lib.hid (at8_in (b := bk) HF.out.ni)
        have HldW : Hid (∀ w', FoSt w w' d b c M nb base (.slice (some ⟨wg, 0, none⟩) H.length c9) (.slice A10 ([] : List Ol).length c10) N H [] all → (loadCellsFrom ⟨wg, nk * m8 + bk * m3, none⟩ 0 m3 #[]).run Try.prog w' = .ok (ocs (at8 S bk)).toArray w') := Lib.hid fun w' h => by
          refine big_load0 Try.prog wg _ (ocs (at8 S bk)) m3 (by rw [ocs_len HWt.out, HM.out.1]) w' fun j v hv => ?_
          rw [HM.out.1, HM.out.2.1]
          have hj := (List.getElem?_eq_some_iff.1 hv).1
          rw [ocs_len HWt.out] at hj
          have h2 := ols_cell8 (HF.out.hi S hSm) (by rw [HF.out.hl S hSm]; exact hbk) hv
          rw [Nat.add_assoc]
          exact (h.ws.cellAt _ (by have := Nat.mul_le_mul_right 272 (show nk + 1 ≤ H.length from hnk); omega)).trans (wls_at (fun S hS => ols8_len (HF.out.hl S hS) (HF.out.hi S hS)) hS h2)
        have HldN : Hid (∀ w', FoSt w w' d b c M nb base (.slice (some ⟨wg, 0, none⟩) H.length c9) (.slice A10 ([] : List Ol).length c10) N H [] all → (loadCellsFrom ⟨nb, bk * m3, none⟩ 0 m3 #[]).run Try.prog w' = .ok (ocs (at8 N bk)).toArray w') := Lib.hid fun w' h => by
          refine big_load0 Try.prog nb (bk * m3) (ocs (at8 N bk)) m3 (by rw [ocs_len HNw.out, HM.out.1]) w' (h.nw.range _ _ fun j v hv => ?_)
          rw [HM.out.1]
          exact ols_cell8 HF.out.ni (by rw [HF.out.nl]; exact hbk) hv
        have HRd : Hid (∀ w', SnIs w' d b c M all 0 → Calls Try.prog 13 #[snp d, .int .i64 (bk : Int), .int .i64 (nk : Int)] w' fun e w'' => e = .returned (rdv all 0 (bk : Int) (nk : Int)) ∧ Below w'.heap.size w' w'') := Lib.hid fun w' h => read_any d b c M all 0 (bk : Int) (nk : Int) w' h (w64_of (by omega) (by omega)) (by omega)
        have HRin : Hid (OIn ((rdF all (bk : Int) (from_ 0 (nk : Int))).getD ol0)) := Lib.hid (rdF_in HS.out.sn.sn (Nat.zero_le _))
        have HNo : Hid (∀ w', SnIs w' d b c M all 0 → Calls Try.prog 15 #[snp d] w' fun e w'' => e = .returned (.int .i64 (all.length : Int)) ∧ w' = w'') := Lib.hid fun w' h => snow_any w' h.raw
        have hbk0 : (0 : Int) ≤ (bk : Int) := by omega
        have hbk8 : (bk : Int) < 8 := by omega
        have hwb := IntWalk.i64_in (bk : Int) (by omega)
        have hwn := IntWalk.i64_in (nk : Int) (by omega)
        have hwt := IntWalk.i64_in t (by omega)
        have hnk0 : (0 : Int) ≤ (nk : Int) := by omega
        have hnkl : (nk : Int) < (H.length : Int) := by omega
        have hhl0 : (0 : Int) ≤ (H.length : Int) := by omega
        have hhl1 : ¬ (H.length : Int) = 0 := by omega
        have hwl := IntWalk.i64_in ((H.length : Int) - 1) (by omega)
        have hcmp : ((all.length : Int) == (H.length : Int) - 1) = true := by simp; omega
        obtain ⟨hy0, hy1⟩ := hy
        obtain ⟨ht0, ht1⟩ := ht
        clear hS hSm hgS hwgl hwgb hlen hH0
        cases hq : rdF all (bk : Int) (from_ 0 (nk : Int)) with
        | none =>
          rw [hq] at HE HRin
          have HV : Hid ((at8 N bk).has = (at8 S bk).has ∧ (at8 N bk).data = (at8 S bk).data) := Lib.hid (by have h := HE.out; simpa [Snap.val] using h)
          have hdq : ∀ W, (binOp .eql 36 (.agg (bs (at8 N bk).data).toArray) (.agg (bs (at8 N bk).data).toArray)).run Try.prog W = .ok (.bool true) W := fun W => by rw [data_eql _ _ HNw.out.1 HNw.out.1]; simp
          have HRv : Hid (rdv all 0 (bk : Int) (nk : Int) = .tuple #[.agg (ocs ol0).toArray, .bool false]) := Lib.hid (by rw [rdv, hq]; rfl)
          clear hq HE HRin
          go_wp2_with fail
          refine (HRd.out wr HS.out.sn.sn).mono ?_
          rintro e w6 ⟨rfl, hb⟩
          rw [HRv.out]
          have H6 := Lib.hid (HS.out.on hb)
          clear hb
          go_wp2_with (first
            | ((with_reducible refine wpList_ol_alloc (o := ⟨some 16, .alloc _, _, _, _, _⟩) rfl rfl ?_); intro w7 x7 hB7 hs7; clear hs7)
            | ((with_reducible refine wpList_ol_store (o := ⟨none, .store _ (.tmp 16) _, _, _, _, _⟩) rfl _ _ rfl w6.heap.size ol0 ol0 ol0_in ol0_in rfl rfl x7 ?_); go_loud (intro w8 x8 hg8 hs8; clear hs8; have K8 := below_stored hB7 hg8 hB7.size (Nat.le_refl _); have hldN := HldN.out w8 (H6.out.on K8); clear x7))
            | ((with_reducible refine wpList_ol_store (o := ⟨none, .store _ (.tmp 16) _, _, _, _, _⟩) rfl _ _ rfl w6.heap.size (at8 N bk) ol0 HNw.out ol0_in rfl rfl x8 ?_); go_loud (intro w9 x9 hg9 hs9; clear hs9; have K9 := below_stored K8 hg9 K8.size (Nat.le_refl _); have HG := Lib.hid (And.intro (H6.out.on K9) x9); have hldW := HldW.out w9 HG.out.1; clear hB7 hg8 K8 x8 hg9 K9 x9 hldN; generalize w6.heap.size = ga at *))
            | ((with_reducible refine wpList_ol_alloc (o := ⟨some 18, .alloc _, _, _, _, _⟩) rfl rfl ?_); intro w10 x10 hB10 hs10; clear hs10)
            | ((with_reducible refine wpList_ol_store (o := ⟨none, .store _ (.tmp 18) _, _, _, _, _⟩) rfl _ _ rfl w9.heap.size (at8 S bk) ol0 HWt.out ol0_in rfl rfl x10 ?_); go_loud (intro w11 x11 hg11 hs11; clear hs11; have K11 := below_stored hB10 hg11 hB10.size (Nat.le_refl _); have HD := Lib.hid (HG.out.1.on K11); have xg := HG.out.2.on K11; have g1 : w11.cell? ⟨ga, 1, none⟩ = some (.bool (at8 N bk).has) := xg.cell 1; have g2 : (loadCellsFrom ⟨ga, 2, none⟩ 0 m2 #[]).run Try.prog w11 = .ok (bs (at8 N bk).data).toArray w11 := old_data xg HNw.out HM.out.2.2; have k1 : w11.cell? ⟨w9.heap.size, 1, none⟩ = some (.bool (at8 N bk).has) := (by rw [HV.out.1]; exact x11.cell 1); have k2 : (loadCellsFrom ⟨w9.heap.size, 2, none⟩ 0 m2 #[]).run Try.prog w11 = .ok (bs (at8 N bk).data).toArray w11 := (by rw [HV.out.2]; exact old_data x11 HWt.out HM.out.2.2); clear x10 hB10 hg11 x11 xg K11 hldW; generalize w9.heap.size = wa at *))
            | fail)
          refine (HNo.out w11 HD.out.sn.sn).mono ?_
          rintro e w12 ⟨rfl, rfl⟩
          go_wp2
          go_ret
          exact ⟨ret_bool (by simp), HD.out.sn.below⟩
        | some o =>
          rw [hq] at HE HRin
          have HOi : Hid (OIn o) := HRin
          have HV : Hid (o.has = (at8 S bk).has ∧ o.data = (at8 S bk).data) := Lib.hid (by have h := HE.out; simpa [Snap.val] using h)
          have hdq : ∀ W, (binOp .eql 36 (.agg (bs o.data).toArray) (.agg (bs o.data).toArray)).run Try.prog W = .ok (.bool true) W := fun W => by rw [data_eql _ _ HOi.out.1 HOi.out.1]; simp
          have HRv : Hid (rdv all 0 (bk : Int) (nk : Int) = .tuple #[.agg (ocs o).toArray, .bool true]) := Lib.hid (by rw [rdv, hq]; rfl)
          clear hq HE HRin
          go_wp2_with fail
          refine (HRd.out wr HS.out.sn.sn).mono ?_
          rintro e w6 ⟨rfl, hb⟩
          rw [HRv.out]
          have H6 := Lib.hid (HS.out.on hb)
          clear hb
          go_wp2_with (first
            | ((with_reducible refine wpList_ol_alloc (o := ⟨some 16, .alloc _, _, _, _, _⟩) rfl rfl ?_); intro w7 x7 hB7 hs7; clear hs7)
            | ((with_reducible refine wpList_ol_store (o := ⟨none, .store _ (.tmp 16) _, _, _, _, _⟩) rfl _ _ rfl w6.heap.size o ol0 HOi.out ol0_in rfl rfl x7 ?_); go_loud (intro w9 x9 hg9 hs9; clear hs9; have K9 := below_stored hB7 hg9 hB7.size (Nat.le_refl _); have HG := Lib.hid (And.intro (H6.out.on K9) x9); have hldW := HldW.out w9 HG.out.1; clear hB7 x7 hg9 K9 x9; generalize w6.heap.size = ga at *))
            | ((with_reducible refine wpList_ol_alloc (o := ⟨some 18, .alloc _, _, _, _, _⟩) rfl rfl ?_); intro w10 x10 hB10 hs10; clear hs10)
            | ((with_reducible refine wpList_ol_store (o := ⟨none, .store _ (.tmp 18) _, _, _, _, _⟩) rfl _ _ rfl w9.heap.size (at8 S bk) ol0 HWt.out ol0_in rfl rfl x10 ?_); go_loud (intro w11 x11 hg11 hs11; clear hs11; have K11 := below_stored hB10 hg11 hB10.size (Nat.le_refl _); have HD := Lib.hid (HG.out.1.on K11); have xg := HG.out.2.on K11; have g1 : w11.cell? ⟨ga, 1, none⟩ = some (.bool o.has) := xg.cell 1; have g2 : (loadCellsFrom ⟨ga, 2, none⟩ 0 m2 #[]).run Try.prog w11 = .ok (bs o.data).toArray w11 := old_data xg HOi.out HM.out.2.2; have k1 : w11.cell? ⟨w9.heap.size, 1, none⟩ = some (.bool o.has) := (by rw [HV.out.1]; exact x11.cell 1); have k2 : (loadCellsFrom ⟨w9.heap.size, 2, none⟩ 0 m2 #[]).run Try.prog w11 = .ok (bs o.data).toArray w11 := (by rw [HV.out.2]; exact old_data x11 HWt.out HM.out.2.2); clear x10 hB10 hg11 x11 xg K11 hldW; generalize w9.heap.size = wa at *))
            | fail)
          refine (HNo.out w11 HD.out.sn.sn).mono ?_
          rintro e w12 ⟨rfl, rfl⟩
          go_wp2
          go_ret
          exact ⟨ret_bool (by simp), HD.out.sn.below⟩
  · have hfd : decide ((80 : Int) < (n : Int)) = true := decide_eq_true (by omega)
    have hfd2 : decide (80 < n) = true := decide_eq_true (by omega)
    go_wp2_with fail
    refine (QW.out _).mono ?_
    rintro e w9 ⟨rfl, hb9⟩
    have H9 := Lib.hid (bthen H1.out hb9)
    clear hb9
    go_wp2
    go_ret
    exact ⟨rfl, H9.out⟩
end Go.Proofs.Ytjjomfpkdbfhdaa

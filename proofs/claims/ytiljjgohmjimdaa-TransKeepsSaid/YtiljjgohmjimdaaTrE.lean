/-
  Package trans: Find, Puts.
-/
import Derived.Test.YtiljjgohmjimdaaTrD
namespace Go.Proofs.Ytiljjgohmjimdaa
open Go.RowKit Word Tran
set_option linter.unusedVariables false

theorem zero_wdata (w : World) : (zeroValue 47).run Try.prog w = .ok (.agg (bs d32).toArray) w :=
  (zero_of_info (P := Try.prog) (t := 47) (v := .agg (bs d32).toArray) (n := 32) (by kernel_rfl)).1 w
theorem build_wd0 (w : World) : (Instr.build 47 #[]).run Try.prog w = .ok (.agg (bs d32).toArray) w := by
  unfold Instr.build
  simp only [Sem.run_bind, zero_wdata w, Result.andThen, run_underlying Try.underlying47, wsize_u8]
  rfl
theorem wt_places (w : World) : (Array.mapM (fun f : Field => (do pure (f.offset, ← sizeOf f.type) : Sem (Nat × Nat))) (Try.prog.fieldsOf 49)).run Try.prog w = .ok #[(0, 1), (1, 1), (2, 32)] w := by
  have h3 : ∀ w : World, (sizeOf 3).run Try.prog w = .ok 1 w := by intro w; go_simp
  have h4 : ∀ w : World, (sizeOf 4).run Try.prog w = .ok 1 w := by intro w; go_simp
  have h5 : ∀ w : World, (sizeOf 47).run Try.prog w = .ok 32 w := by intro w; go_simp
  simp only [Program.fieldsOf, Try.underlying49]
  simp only [List.mapM_toArray, List.mapM_cons, List.mapM_nil, Sem.run_bind, Sem.run_pure, h3, h4, h5, Result.andThen, Sem.run_map]
theorem wfill_bool (pl : Nat → Option (Nat × Nat)) (pre rest : List Value) (x0 : Value) (n : Bool) (i off : Nat) (more : List (Nat × Value)) (hpl : pl i = some (off, 1)) (hoff : pre.length = off) :
    Instr.fill pl (pre ++ x0 :: rest).toArray ((i, .bool n) :: more) = Instr.fill pl (pre ++ Value.bool n :: rest).toArray more := by
  have e : (Value.bool n).cells = #[Value.bool n] := rfl
  conv => lhs; unfold Instr.fill
  simp only [hpl, e]
  rw [if_neg (by simp; omega)]
  congr 1
  subst hoff
  simp
theorem build_wt0 (w : World) : (Instr.build 49 #[]).run Try.prog w = .ok (.agg (twc wt0).toArray) w := by
  have hp := wt_places w
  simp only [Program.fieldsOf, Try.underlying49] at hp
  unfold Instr.build
  simp only [Sem.run_bind, zero_wt w, Result.andThen, run_underlying Try.underlying49, hp]
  rfl
theorem build_wt2 (w : World) (b : Int) (h : Bool) : (Instr.build 49 #[(0, .int .i64 b), (1, .bool h)]).run Try.prog w = .ok (.agg (twc ⟨b, h, d32⟩).toArray) w := by
  have hp := wt_places w
  simp only [Program.fieldsOf, Try.underlying49] at hp
  unfold Instr.build
  simp only [Sem.run_bind, zero_wt w, Result.andThen, run_underlying Try.underlying49, hp]
  have e : Instr.fill (fun x => #[((0, 1) : Nat × Nat), (1, 1), (2, 32)][x]?) (Value.agg (twc wt0).toArray).cells [(0, .int .i64 b), (1, .bool h)] = some (twc ⟨b, h, d32⟩).toArray := by
    refine (fill_int _ [] _ _ _ _ 0 0 _ rfl rfl).trans ?_
    exact (wfill_bool _ [_] _ _ _ 1 1 _ rfl rfl).trans rfl
  rw [e]
  rfl
abbrev tnv (x : Wt) (ok : Bool) : Value := .tuple #[wval x, .bool ok]
abbrev fnv (b : Int) (l : List Wt) : Value := tnv ((fnd b l).getD wt0) (fnd b l).isSome
set_option maxRecDepth 100000 in
set_option maxHeartbeats 4000000 in
theorem find_any (x : Tv) (b : Int) (w : World) (hm : x.t.ws.length ≤ 100000) (hin : ∀ o ∈ x.t.ws, WIn o) (hs : Rise (keys x.t.ws)) (hr : Rd w w.heap.size x.A (tws x.t.ws)) :
    Calls Try.prog 20 #[tval x, .int .i64 b] w fun e w' => e = .returned (fnv b x.t.ws) ∧ Below w.heap.size w w' := by
  obtain ⟨m, hm34, hsz⟩ := big_size (P := Try.prog) (t := 49) (s := 34) (by kernel_rfl)
  have hm0 : ¬ m = 0 := by omega
  have HM := Lib.hid hm34
  have HI := Lib.hid (And.intro hin (And.intro hs hr))
  clear hm34 hin hs hr
  go_enter Try.func20, Try.ntmps20
  go_wp2_with (first
    | ((with_reducible refine wpList_box_box _ (o := ⟨some 2, .box _ _, _, _, _, _⟩) rfl _ _ rfl (tnc x) rfl ?_); intro w1 x1 B1 s1)
    | ((with_reducible refine wpList_wt_alloc (o := ⟨some 4, .alloc _, _, _, _, _⟩) rfl rfl ?_); intro w2 x2 B2 s2; obtain ⟨c0, c1, c2⟩ := tn_box (x1.on B2); rw [s1]; rw [s1] at x2; have H2 := Lib.hid (And.intro (bthen B1 B2) (And.intro (x1.on B2) x2)); clear x1 B1 s1 x2 B2 s2)
    | fail)
  refine (writeOf_any x b w2 hm HI.out.1 HI.out.2.1 ((HI.out.2.2.below H2.out.1).more H2.out.1.size)).mono ?_
  rintro e w3 ⟨rfl, hb⟩
  have H3 := Lib.hid (And.intro (bthen H2.out.1 hb) (And.intro (H2.out.2.1.on hb) (H2.out.2.2.on hb)))
  obtain ⟨c0', c1', c2'⟩ := tn_box H3.out.2.1
  clear hb c0 c1 c2 H2
  by_cases hh : hit b (keys x.t.ws) = true
  · have hlt := hit_lt hh
    rw [List.length_map] at hlt
    have HF := Lib.hid (show fnd b x.t.ws = some (x.t.ws[pos b (keys x.t.ws)]'hlt) by rw [fnd, if_pos hh, List.getElem?_eq_getElem hlt])
    have hlk : x.t.ws[pos b (keys x.t.ws)]? = some (x.t.ws[pos b (keys x.t.ws)]'hlt) := List.getElem?_eq_getElem hlt
    obtain ⟨ad, hA, hld, _⟩ := wt_load (m := m) (HI.out.2.2.below H3.out.1) HI.out.1 hlk HM.out
    have HW := Lib.hid (HI.out.1 _ (List.getElem_mem hlt))
    obtain ⟨⟨id, bg, ws⟩, A, cap⟩ := x
    obtain rfl : A = some ad := hA
    simp only at *
    have hpl : pos b (keys ws) < ws.length := hlt
    rw [hh]
    generalize pos b (keys ws) = p at *
    generalize ws[p]'hlt = o at *
    have hpi : (p : Int) < (ws.length : Int) := by omega
    clear hlk hh
    go_wp2_with (first
      | ((with_reducible refine wpList_wt_store (o := ⟨none, .store _ (.tmp 4) _, _, _, _, _⟩) rfl _ _ rfl (w.heap.size + 1) o wt0 HW.out wt0_in rfl rfl H3.out.2.2 ?_); go_loud (intro w4 x4 hg4 _))
      | fail)
    have hldF := x4.wtAll HW.out HM.out
    have KB : Below w.heap.size w w4 := below_stored H3.out.1 hg4 H3.out.1.size (by omega)
    exact bodyPost_ret (v := tnv o true) (by simp [results, Try.results20, go_sem, hsz, hldF]) rfl ⟨by unfold fnv; rw [HF.out]; rfl, KB⟩
  · have HF := Lib.hid (show fnd b x.t.ws = none by rw [fnd, if_neg hh])
    rw [show hit b (keys x.t.ws) = false by simpa using hh]
    clear hh
    go_wp2_with (first
      | ((with_reducible refine wpList_build_zero _ (o := ⟨some 16, .build _ _, _, _, _, _⟩) rfl _ rfl (twc wt0) build_wt0 ?_))
      | ((with_reducible refine wpList_wt_store (o := ⟨none, .store _ (.tmp 4) _, _, _, _, _⟩) rfl _ _ rfl (w.heap.size + 1) wt0 wt0 wt0_in wt0_in rfl rfl H3.out.2.2 ?_); go_loud (intro w4 x4 hg4 _))
      | fail)
    have hldF := x4.wtAll wt0_in HM.out
    have KB : Below w.heap.size w w4 := below_stored H3.out.1 hg4 H3.out.1.size (by omega)
    exact bodyPost_ret (v := tnv wt0 false) (by simp [results, Try.results20, go_sem, hsz, hldF]) rfl ⟨by unfold fnv; rw [HF.out]; rfl, KB⟩
set_option maxRecDepth 100000 in
set_option maxHeartbeats 4000000 in
theorem puts_any (x : Tv) (w : World) (hm : x.t.ws.length ≤ 100000) (hin : ∀ o ∈ x.t.ws, WIn o) (hr : Rd w w.heap.size x.A (tws x.t.ws)) :
    Calls Try.prog 21 #[tval x] w fun e w' => e = .returned (.int .i64 (cntW x.t.ws : Nat)) ∧ Below w.heap.size w w' := by
  obtain ⟨m, hm34, hsz⟩ := big_size (P := Try.prog) (t := 49) (s := 34) (by kernel_rfl)
  have hm0 : ¬ m = 0 := by omega
  have HM := Lib.hid hm34
  have HI := Lib.hid (And.intro hin hr)
  clear hm34 hin hr
  obtain ⟨⟨id, bg, ws⟩, A, cap⟩ := x
  simp only at *
  generalize hn : ws.length = n at *
  have HN := Lib.hid hn
  go_enter Try.func21, Try.ntmps21
  go_wp2_with (first
    | ((with_reducible refine wpList_box_box _ (o := ⟨some 1, .box _ _, _, _, _, _⟩) rfl _ _ rfl (tnc ⟨⟨id, bg, ws⟩, A, cap⟩) rfl ?_); intro w1 x1 B1 s1; obtain ⟨c0, c1, c2⟩ := tn_box x1; simp only [HN.out] at c2; have H1 := Lib.hid B1; clear x1 B1 s1)
    | fail)
  clear c0 c1 c2 hn
  go_loopw [3, 9] (fun v3 v9 wr => ∃ k : Nat, v9 = .int .i64 k ∧ k ≤ n ∧ v3 = .int .i64 (cntW (ws.take k) : Nat) ∧ Hid (Below w.heap.size w wr)) (fun _ v9 _ => n - (intOf v9).toNat)
  case atStart => exact ⟨0, rfl, by omega, rfl, H1⟩
  case round =>
    obtain ⟨k, rfl, hk, rfl, H2⟩ := hrel
    by_cases hlt : k < n
    · have hkl : k < ws.length := by rw [HN.out]; exact hlt
      have hlk : ws[k]? = some (ws[k]'hkl) := List.getElem?_eq_getElem hkl
      have HC := Lib.hid (show cntW (ws.take (k + 1)) = cntW (ws.take k) + if (ws[k]'hkl).tr then 0 else 1 by rw [List.take_succ_eq_append_getElem hkl, cntW_snoc])
      have hcn : cntW (ws.take k) ≤ 100000 := by
        have : cntW (ws.take k) ≤ (ws.take k).length := List.countP_le_length
        have h2 : (ws.take k).length ≤ ws.length := List.length_take_le' k ws
        have := HN.out
        omega
      obtain ⟨ad, rfl, hld, _⟩ := wt_load (m := m) (HI.out.2.below H2.out) HI.out.1 hlk HM.out
      have HW := Lib.hid (HI.out.1 _ (List.getElem_mem hkl))
      generalize ws[k]'hkl = o at *
      generalize cntW (ws.take k) = q at *
      clear hlk hkl
      cases htr : o.tr
      · have HT := Lib.hid htr
        rw [htr] at HC
        clear htr
        go_wp2_with (first
          | ((with_reducible refine wpList_wt_alloc (o := ⟨some 5, .alloc _, _, _, _, _⟩) rfl rfl ?_); intro w3 x3 B3 s3)
          | ((with_reducible refine wpList_wt_store (o := ⟨none, .store _ (.tmp 5) _, _, _, _, _⟩) rfl _ _ rfl wr.heap.size o wt0 HW.out wt0_in rfl rfl x3 ?_); go_loud (intro w4 x4 hg4 _; have c1 := x4.wt.2; rw [HT.out] at c1; have H4 := Lib.hid (bthen H2.out (below_stored B3 hg4 B3.size (Nat.le_refl _))); clear x3 B3 s3 x4 hg4 hld; generalize wr.heap.size = bx at *))
          | fail)
        go_roundw
        case rel => exact ⟨k + 1, by go_num, by omega, by rw [HC.out]; go_num, H4⟩
        case measure => first | (simp [intOf]; done) | (simp [intOf]; omega)
      · have HT := Lib.hid htr
        rw [htr] at HC
        clear htr
        go_wp2_with (first
          | ((with_reducible refine wpList_wt_alloc (o := ⟨some 5, .alloc _, _, _, _, _⟩) rfl rfl ?_); intro w3 x3 B3 s3)
          | ((with_reducible refine wpList_wt_store (o := ⟨none, .store _ (.tmp 5) _, _, _, _, _⟩) rfl _ _ rfl wr.heap.size o wt0 HW.out wt0_in rfl rfl x3 ?_); go_loud (intro w4 x4 hg4 _; have c1 := x4.wt.2; rw [HT.out] at c1; have H4 := Lib.hid (bthen H2.out (below_stored B3 hg4 B3.size (Nat.le_refl _))); clear x3 B3 s3 x4 hg4 hld; generalize wr.heap.size = bx at *))
          | fail)
        go_roundw
        case rel => exact ⟨k + 1, by go_num, by omega, by rw [HC.out]; rfl, H4⟩
        case measure => first | (simp [intOf]; done) | (simp [intOf]; omega)
    · obtain rfl : n = k := by omega
      have HE := Lib.hid (show ws.take n = ws from List.take_of_length_le (by rw [HN.out]; exact Nat.le_refl _))
      go_wp2
      go_ret
      exact ⟨by rw [HE.out]; rfl, H2.out⟩
end Go.Proofs.Ytiljjgohmjimdaa

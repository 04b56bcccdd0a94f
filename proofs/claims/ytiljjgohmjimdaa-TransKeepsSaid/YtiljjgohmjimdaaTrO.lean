/-
  Package trans: Oldest; the answer's Right, Find, Get.
-/
import Derived.Test.YtiljjgohmjimdaaTrN
import Derived.Test.YtiljjgohmjimdaaClass
namespace Go.Proofs.Ytiljjgohmjimdaa
open Go.RowKit Word Tran
set_option linter.unusedVariables false

theorem oldT_snoc (now : Int) (l : List Tn) (x : Tn) (h : l ≠ []) : oldT now (l ++ [x]) = min (oldT now l) x.bg := by
  cases l with
  | nil => exact absurd rfl h
  | cons y l => simp [oldT, List.foldl_append]
theorem min_alt (o b : Int) : min o b = if b < o then b else o := by
  by_cases h : b < o
  · rw [if_pos h]; omega
  · rw [if_neg h]; omega
set_option maxRecDepth 100000 in
set_option maxHeartbeats 4000000 in
theorem oldest_any (x : Lv) (now : Int) (w : World) (hi : LIn w x) :
    Calls Try.prog 17 #[lval x, .int .i64 now] w fun e w' => e = .returned (.int .i64 (oldT now (x.l.map Tv.t))) ∧ Below w.heap.size w w' := by
  obtain ⟨nx, l, A, cap⟩ := x
  have HI := Lib.hid hi
  clear hi
  obtain ⟨n, hn⟩ : ∃ n, l.length = n := ⟨_, rfl⟩
  have HN := Lib.hid hn
  have HM : n ≤ 10000 := by have := HI.out.few; have h2 : l.length ≤ 10000 := this; omega
  clear hn
  by_cases h0 : n = 0
  · have hb0 : ((n : Int) == 0) = true := by simp [h0]
    have HZ := Lib.hid (show l = [] from List.eq_nil_of_length_eq_zero (by rw [HN.out]; exact h0))
    clear h0
    go_enter Try.func17, Try.ntmps17
    go_wp2_with (first
      | ((with_reducible refine wpList_box_box _ (o := ⟨some 2, .box _ _, _, _, _, _⟩) rfl _ _ rfl (lgc ⟨nx, l, A, cap⟩) rfl ?_); intro w1 x1 B1 s1; obtain ⟨c0, c1⟩ := lg_box x1; simp only [HN.out] at c1; have H1 := Lib.hid B1; clear x1 B1 s1)
      | fail)
    go_ret
    exact ⟨by rw [HZ.out]; rfl, H1.out⟩
  · have hb0 : ((n : Int) == 0) = false := by simp [h0]
    have h0n : 0 < n := by omega
    clear h0
    go_enter Try.func17, Try.ntmps17
    have hl0 : l[0]? = some (l[0]'(by rw [HN.out]; exact h0n)) := List.getElem?_eq_getElem _
    have HL0 := Lib.hid hl0
    generalize l[0]'(by rw [HN.out]; exact h0n) = y0 at *
    clear hl0
    obtain ⟨ad, hA, _⟩ := tn_at HI.out.rd.1 HL0.out
    obtain rfl : A = some ad := hA
    have hpn : (0 : Int) < (n : Int) := by omega
    go_wp2_with (first
      | ((with_reducible refine wpList_box_box _ (o := ⟨some 2, .box _ _, _, _, _, _⟩) rfl _ _ rfl (lgc ⟨nx, l, some ad, cap⟩) rfl ?_); intro w1 x1 B1 s1; obtain ⟨c0, c1⟩ := lg_box x1; simp only [HN.out] at c1; have H1 := Lib.hid B1; obtain ⟨ad2, e9, _, e0, e1, e2⟩ := tn_at (HI.out.rd.below B1).1 HL0.out; obtain rfl : ad = ad2 := (by injection e9); rw [Nat.zero_mul, show ad.add 0 = ad from rfl] at e0 e1 e2; clear x1 B1 s1 e9)
      | fail)
    clear c0 c1 e0 e1 e2
    go_loopw [5, 21] (fun v5 v21 wr => ∃ k : Nat, v21 = .int .i64 k ∧ k ≤ n ∧ v5 = .int .i64 (oldT now (y0.t :: (l.take k).map Tv.t)) ∧ Hid (Below w.heap.size w wr)) (fun _ v21 _ => n - (intOf v21).toNat)
    case atStart => exact ⟨0, rfl, by omega, rfl, H1⟩
    case round =>
      obtain ⟨k, rfl, hk, rfl, H2⟩ := hrel
      by_cases hlt : k < n
      · have hkl : k < l.length := by rw [HN.out]; exact hlt
        have hlk : l[k]? = some (l[k]'hkl) := List.getElem?_eq_getElem hkl
        obtain ⟨ad2, hA, _, e0, e1, e2⟩ := tn_at (HI.out.rd.below H2.out).1 hlk
        obtain rfl : ad = ad2 := by injection hA
        have HD := Lib.hid (show oldT now (y0.t :: (l.take (k + 1)).map Tv.t) = min (oldT now (y0.t :: (l.take k).map Tv.t)) (l[k]'hkl).t.bg by
          rw [List.take_succ_eq_append_getElem hkl, List.map_append, ← List.cons_append]
          exact oldT_snoc now _ _ (by simp))
        generalize l[k]'hkl = y at *
        generalize oldT now (y0.t :: (l.take k).map Tv.t) = o at *
        clear hlk hkl hA
        go_wp2_with (first
          | ((with_reducible refine wpList_alloc_box _ (o := ⟨some 7, .alloc _, _, _, _, _⟩) rfl _ rfl (tnc tz) zero_tn ?_); intro w5 x5 B5 s5)
          | ((with_reducible refine wpList_store_var _ (o := ⟨none, .store _ (.tmp 7) _, _, _, _, _⟩) rfl 27 _ _ rfl wr.heap.size (tnc y) (tnc tz) (tn_size _) rfl (tnc_one _) rfl rfl x5 ?_); go_loud (intro w6 x6 hg6; obtain ⟨k0, k1, k2⟩ := tn_box x6; have H6 := Lib.hid (bthen H2.out (below_stored B5 hg6 B5.size (Nat.le_refl _))); clear x5 B5 s5 x6 hg6 e0 e1 e2; generalize wr.heap.size = bx at *))
          | fail)
        go_roundw
        case rel => exact ⟨k + 1, by go_num, by omega, by rw [HD.out, min_alt], H6⟩
        case measure => first | (simp [intOf]; done) | (simp [intOf]; omega)
      · obtain rfl : n = k := by omega
        have HE := Lib.hid (show oldT now (y0.t :: (l.take n).map Tv.t) = oldT now (l.map Tv.t) by
          rw [List.take_of_length_le (by rw [HN.out]; exact Nat.le_refl _)]
          cases l with
          | nil => have := HL0.out; simp at this
          | cons z l =>
            have h0 := HL0.out
            simp at h0
            subst h0
            simp [oldT])
        go_wp2
        go_ret
        exact ⟨by rw [← HE.out]; rfl, H2.out⟩
/-- a truth that is told -/
def TellsB (e : Ending) (P : Prop) : Prop := ∃ r : Bool, e = .returned (.bool r) ∧ (r = true ↔ P)
theorem TellsB.yes {e : Ending} {P : Prop} (he : e = .returned (.bool true)) (h : P) : TellsB e P := ⟨true, he, by simpa using h⟩
theorem TellsB.no {e : Ending} {P : Prop} (he : e = .returned (.bool false)) (h : ¬ P) : TellsB e P := ⟨false, he, by simpa using h⟩
/-- is a transaction right? -/
def RiT (t : Tn) : Prop := Rise (keys t.ws) ∧ t.ws.length ≤ 60
set_option maxRecDepth 100000 in
set_option maxHeartbeats 4000000 in
theorem tright_any18 (x : Tv) (w : World) (hm : x.t.ws.length ≤ maxLen) (hin : ∀ o ∈ x.t.ws, WIn o) (hr : Rd w w.heap.size x.A (tws x.t.ws)) :
    Calls Try.prog 7 #[tval x] w fun e w' => TellsB e (RiT x.t) ∧ Below w.heap.size w w' := by
  obtain ⟨m, hm34, hsz⟩ := big_size (P := Try.prog) (t := 49) (s := 34) (by kernel_rfl)
  have hm0 : ¬ m = 0 := by omega
  have HM := Lib.hid hm34
  have HI := Lib.hid (And.intro hin hr)
  clear hm34 hin hr
  obtain ⟨⟨id, bg, ws⟩, A, cap⟩ := x
  simp only at *
  generalize hn : ws.length = n at *
  have HN := Lib.hid hn
  unfold maxLen at hm
  go_enter Try.func7, Try.ntmps7
  go_wp2_with (first
    | ((with_reducible refine wpList_box_box _ (o := ⟨some 1, .box _ _, _, _, _, _⟩) rfl _ _ rfl (tnc ⟨⟨id, bg, ws⟩, A, cap⟩) rfl ?_); intro w1 x1 B1 s1; have H1 := Lib.hid (And.intro x1 B1); clear x1 B1 s1)
    | fail)
  clear hn
  go_loopw [3] (fun v3 wr => ∃ j : Nat, v3 = .int .i64 ((j : Int) + 1) ∧ (j + 1 ≤ n ∨ j = 0) ∧ Rise ((keys ws).take (j + 1)) ∧ Hid (Box wr w.heap.size 27 (tnc ⟨⟨id, bg, ws⟩, A, cap⟩) ∧ Below w.heap.size w wr)) (fun v3 _ => n + 1 - (intOf v3).toNat)
  case atStart => exact ⟨0, rfl, .inr rfl, rise_len _ (by rw [List.length_take]; omega), H1⟩
  case round =>
    obtain ⟨j, rfl, hj, hri, H2⟩ := hrel
    clear H1
    have HR := Lib.hid (And.intro hj hri)
    clear hj hri
    obtain ⟨c0, c1, c2⟩ := tn_box H2.out.1
    simp only [HN.out] at c2
    by_cases hlt : j + 1 < n
    · by_cases h100 : j + 1 < 100
      · have hd1 : (decide ((j : Int) + 1 < (n : Int))) = true := decide_eq_true (by omega)
        have hd2 : (decide ((j : Int) + 1 < 100)) = true := decide_eq_true (by omega)
        have hk0 : ws[j]? = some (ws[j]'(by rw [HN.out]; omega)) := List.getElem?_eq_getElem _
        have hk1 : ws[j + 1]? = some (ws[j + 1]'(by rw [HN.out]; omega)) := List.getElem?_eq_getElem _
        obtain ⟨ad, rfl, _, e0⟩ := wt_b (m := m) (HI.out.2.below H2.out.2) HI.out.1 hk0 HM.out
        obtain ⟨ad2, hA, _, e1⟩ := wt_b (m := m) (HI.out.2.below H2.out.2) HI.out.1 hk1 HM.out
        obtain rfl : ad = ad2 := by injection hA
        have HK := Lib.hid (And.intro (keys_at hk0) (keys_at hk1))
        generalize ws[j]'(by rw [HN.out]; omega) = y0 at *
        generalize ws[j + 1]'(by rw [HN.out]; omega) = y1 at *
        clear hk0 hk1 hA
        have hji : (j : Int) < (n : Int) := by omega
        have hji1 : (j : Int) + 1 < (n : Int) := by omega
        have hj0 : (0 : Int) ≤ (j : Int) + 1 := by omega
        go_wp2_with fail
        by_cases hle : y1.b ≤ y0.b
        · have hd3 : (decide (y1.b ≤ y0.b)) = true := decide_eq_true hle
          have HLe := Lib.hid hle
          clear hle
          go_quiet (fail)
          go_wp2
          go_ret
          exact ⟨TellsB.no rfl fun h => not_rise HK.out.1 HK.out.2 HLe.out h.1, below_draws H2.out.2 _⟩
        · have hd3 : (decide (y1.b ≤ y0.b)) = false := decide_eq_false hle
          have HLe := Lib.hid hle
          clear hle
          go_quiet (fail)
          go_wp2
          go_roundw
          case rel => exact ⟨j + 1, by go_num, by omega, (rise_more HR.out.2 HK.out.1 HK.out.2).2 (by have := HLe.out; omega), Lib.hid ⟨H2.out.1.on (below_draws (Below.refl _ _) _), below_draws H2.out.2 _⟩⟩
          case measure => first | (simp [intOf]; done) | (simp [intOf]; omega)
      · have hd1 : (decide ((j : Int) + 1 < (n : Int))) = true := decide_eq_true (by omega)
        have hd2 : (decide ((j : Int) + 1 < 100)) = false := decide_eq_false (by omega)
        have hd3 : (decide ((n : Int) ≤ 60)) = false := decide_eq_false (by omega)
        have H6 := Lib.hid (show ¬ n ≤ 60 by omega)
        clear h100 hlt
        go_wp2
        go_ret
        exact ⟨TellsB.no rfl fun h => H6.out (by rw [← HN.out]; exact h.2), H2.out.2⟩
    · have hd1 : (decide ((j : Int) + 1 < (n : Int))) = false := decide_eq_false (by omega)
      have HX := Lib.hid hlt
      clear hlt
      go_wp2
      go_ret
      refine ⟨⟨decide ((n : Int) ≤ 60), rfl, ?_⟩, H2.out.2⟩
      have hlt := HX.out
      have hall : (keys ws).take (j + 1) = keys ws := List.take_of_length_le (by rw [List.length_map, HN.out]; rcases HR.out.1 with h | h <;> omega)
      have hri := HR.out.2
      rw [hall] at hri
      simp only [RiT, HN.out, decide_eq_true_eq]
      constructor
      · intro h; exact ⟨hri, by omega⟩
      · intro h; omega
end Go.Proofs.Ytiljjgohmjimdaa

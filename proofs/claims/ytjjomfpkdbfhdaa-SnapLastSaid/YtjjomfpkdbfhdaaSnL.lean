/-
  The laws Last and Forgets of layer 17.
-/
import Derived.Test.YtjjomfpkdbfhdaaSnO
import Derived.Test.YtjjomfpkdbfhdaaSnQ
namespace Go.Proofs.Ytjjomfpkdbfhdaa
open Go.RowKit Word Snap
set_option linter.unusedVariables false

theorem fewy_len {l : List Av} (h : Fewy l) : l.length ≤ 200 := by
  unfold Fewy muchK at h
  omega
theorem fewy_each {l : List Av} (h : Fewy l) : ∀ x ∈ l, x.ov.olds.length ≤ 200 := fun x hx => Nat.le_trans (muchK_mono hx (Nat.le_refl _)) h
theorem rd_last {all : List (List Ol)} {g : Nat} {z : Int} : rdF all z (from_ g (lastN all z all.length : Int)) = none := by
  have h : rdF all z (lastN all z all.length) = none := by
    rw [rdF_over (lastN_le _) fun i h1 h2 => lastN_none h1 h2]
    exact rdF_end (Nat.le_refl _)
  unfold from_
  have e : ((lastN all z all.length : Nat) : Int).toNat = lastN all z all.length := by omega
  rw [e]
  by_cases hg : max g (lastN all z all.length) ≤ all.length
  · rw [← h]
    exact (rdF_over (by omega) fun i h1 h2 => lastN_none h1 (by omega)).symm
  · exact rdF_end (by omega)
theorem rd_now {all : List (List Ol)} {g : Nat} {z : Int} : rdF all z (from_ g (all.length : Int)) = none := rdF_end (by unfold from_; omega)
theorem from_forgot {g : Nat} {n at_ : Int} {len : Nat} (h : n ≤ at_) : from_ (max g (min n len).toNat) at_ = from_ g at_ := by
  unfold from_
  omega
theorem kept_forgot (all : List (List Ol)) {g g' : Nat} (h : g ≤ g') : (kept all g').length ≤ (kept all g).length := by
  unfold kept
  rw [keptN_forget h]
  exact List.length_filter_le _ _
/-- what was read is laid into its variable -/
theorem old_kept {w wr w4 w5 : World} {d b c m : Nat} {all : List (List Ol)} {g : Nat} (h : Own w wr d b c m all g) (hb : Below wr.heap.size wr w4) (hg : w4.grownBy w5 (some wr.heap.size)) : Own w w5 d b c m all g := h.on (below_stored hb hg hb.size (Nat.le_refl _))
theorem rdF_in {w : World} {d b c m : Nat} {all : List (List Ol)} {g : Nat} {z : Int} {k : Nat} (t : SnIs w d b c m all g) (hk : g ≤ k) : OIn ((rdF all z k).getD ol0) := by
  cases h : rdF all z k with
  | none => exact ol0_in
  | some o =>
    -- the first commit from k on that changed it is kept
    have hx : ∃ i, k ≤ i ∧ i < all.length ∧ inn (all.getD i []) z = some o := by
      unfold rdF at h
      obtain ⟨i, hi, h2⟩ : ∃ i, ∃ l, (all.drop k)[i]? = some l ∧ inn l z = some o := by
        obtain ⟨l, hl, ho⟩ := List.exists_of_findSome?_eq_some h
        obtain ⟨i, hi⟩ := List.getElem?_of_mem hl
        exact ⟨i, l, hi, ho⟩
      obtain ⟨h3, h4⟩ := h2
      rw [List.getElem?_drop] at h3
      have := (List.getElem?_eq_some_iff.1 h3).1
      exact ⟨k + i, by omega, this, by rw [List.getD, h3]; exact h4⟩
    obtain ⟨i, h1, h2, h3⟩ := hx
    have hb := (inn_b h3).1
    exact (t.raw.kp.ins (en all i o) (keptN_mem.2 ⟨i, h2, by omega, o, by rw [hb]; exact h3, rfl⟩)).2

set_option maxRecDepth 100000 in
set_option maxHeartbeats 4000000 in
theorem snlaw_last (A : Option Addr) (n cap : Nat) (L : List Av) (z : Int) (w : World) (hz : W64 z) (hn : n ≤ maxLen) (hl : L.length = n) (hr : Rd w w.heap.size A (avs L)) (hin : ∀ x ∈ L, AvIn w w.heap.size x) :
    Calls Try.prog 7 #[.slice A n cap, .int .i64 z] w fun e w' => e = .returned (.bool true) ∧ Below w.heap.size w w' := by
  have HZ := Lib.hid hz
  clear hz
  have QW := Lib.hid fun w' => awake17_any w'
  have HN := Lib.hid (And.intro hl (And.intro hr hin))
  have HNm := Lib.hid hn
  clear hl hr hin hn
  go_enter Try.func7, Try.ntmps7
  go_wp2_with fail
  refine (QW.out _).mono ?_
  rintro e w1 ⟨rfl, hb1⟩
  have H1 := Lib.hid hb1
  clear hb1
  go_wp2_with fail
  refine (few_any A n cap L w1 HN.out.1 HNm.out ((HN.out.2.1.below H1.out).more H1.out.size) (fun x hx => ((HN.out.2.2 x hx).below H1.out).more H1.out.size)).mono ?_
  rintro e w2 ⟨⟨bv, rfl, hbv⟩, rfl⟩
  have HF := Lib.hid hbv
  clear hbv
  cases bv
  · clear HF
    go_wp2_with fail
    refine (QW.out _).mono ?_
    rintro e w9 ⟨rfl, hb9⟩
    have H9 := Lib.hid (bthen H1.out hb9)
    clear hb9
    go_wp2
    go_ret
    exact ⟨rfl, H9.out⟩
  · have HY := Lib.hid (HF.out rfl)
    have hn2 : n ≤ 200 := by have := fewy_len HY.out; rw [HN.out.1] at this; exact this
    clear HF
    go_wp2_with fail
    refine (snew_any _).mono ?_
    rintro e w3 ⟨d, b, c, rfl, hs, q1, q2, q3, hb⟩
    have H3 : Hid (Own w w3 d b c 0 [] 0) := Lib.hid ⟨hs, Nat.le_trans H1.out.size q1, Nat.le_trans H1.out.size q2, Nat.le_trans H1.out.size q3, bthen H1.out hb⟩
    clear hs q1 q2 q3 hb
    go_wp2
    go_loopw [6] (fun i wr => ∃ k : Nat, k ≤ n ∧ i = .int .i64 k ∧ Own w wr d b c (k * 200) (actsK L k).1 (actsK L k).2) (fun i _ => n - (intOf i).toNat)
    case atStart => exact ⟨0, Nat.zero_le _, rfl, by rw [Nat.zero_mul]; exact H3.out⟩
    case round =>
      obtain ⟨k, hk, rfl, hst⟩ := hrel
      have HS := Lib.hid hst
      clear hst H3
      by_cases hlt : k < n
      · have hki : (k : Int) < (n : Int) := by omega
        have hkl : k < L.length := by rw [HN.out.1]; exact hlt
        have hx : L[k]? = some (L[k]'hkl) := List.getElem?_eq_getElem hkl
        obtain ⟨ad, rfl, hadb, c0, c1, c2⟩ := av_at (HN.out.2.1.below HS.out.below) hx
        have hxm := List.getElem_mem hkl
        have HX := Lib.hid (((HN.out.2.2 _ hxm).below HS.out.below).more HS.out.below.size)
        have HXf := Lib.hid (fewy_each HY.out _ hxm)
        have HStep := Lib.hid (actsK_step hx)
        generalize L[k]'hkl = x at *
        have HC := Lib.hid (ldo_any d b c (k * 200) (actsK L k).1 (actsK L k).2 x wr HS.out.sn HX.out HXf.out (by omega) (by have := actsK_len L k; omega))
        obtain ⟨xk, ⟨xo, xA, xc⟩, xn⟩ := x
        replace c1 : wr.cell? ⟨(ad.add (k * 3)).block, (ad.add (k * 3)).off + 1, none⟩ = some (.slice xA xo.length xc) := c1
        replace HC : Hid (Calls Try.prog 11 #[snp d, .agg #[.int .u8 xk, .slice xA xo.length xc, .int .i64 xn]] wr fun e w' => e = .returned (.tuple #[]) ∧ SnIs w' d b c (k * 200 + 200) (actS ((actsK L k).1, (actsK L k).2) ⟨xk, ⟨xo, xA, xc⟩, xn⟩).1 (actS ((actsK L k).1, (actsK L k).2) ⟨xk, ⟨xo, xA, xc⟩, xn⟩).2 ∧ Fr (Tri d b c) wr w') := HC
        clear hx hkl hxm hadb
        generalize xo.length = xl at *
        go_wp2_with fail
        refine HC.out.mono ?_
        rintro e w4 ⟨rfl, hs, hf⟩
        have H4 : Hid (Own w w4 d b c ((k + 1) * 200) (actsK L (k + 1)).1 (actsK L (k + 1)).2) := Lib.hid (by
          rw [HStep.out, show (k + 1) * 200 = k * 200 + 200 by omega]
          exact HS.out.turn hs hf)
        clear hs hf c0 c1 c2 HC
        go_wp2
        go_roundw
        case rel => exact ⟨k + 1, by omega, by go_num, H4.out⟩
        case measure => first | (simp [intOf]; done) | (simp [intOf]; omega)
      · obtain rfl : n = k := by omega
        have HAl := Lib.hid (actsK_len L n)
        generalize (actsK L n).1 = all at *
        generalize (actsK L n).2 = g at *
        go_wp2_with fail
        refine (slast_any wr z HZ.out HS.out.sn.raw).mono ?_
        rintro e w4 ⟨rfl, rfl⟩
        have HR1 := Lib.hid (show rdv all g z (lastN all z all.length : Int) = .tuple #[.agg (ocs ol0).toArray, .bool false] by rw [rdv, rd_last]; rfl)
        have HR2 := Lib.hid (show rdv all g z (all.length : Int) = .tuple #[.agg (ocs ol0).toArray, .bool false] by rw [rdv, rd_now]; rfl)
        have HC1 := Lib.hid fun (w' : World) (t : SnIs w' d b c (n * 200) all g) => read_any d b c (n * 200) all g z (lastN all z all.length : Int) w' t HZ.out (by have := HAl.out; omega)
        have HC2 := Lib.hid fun (w' : World) (t : SnIs w' d b c (n * 200) all g) => read_any d b c (n * 200) all g z (all.length : Int) w' t HZ.out (by have := HAl.out; omega)
        rw [HR1.out] at HC1
        rw [HR2.out] at HC2
        have hq1 : ((lastN all z all.length : Nat) : Int) ≤ (all.length : Int) := by have := lastN_le (all := all) (b := z) all.length; omega
        have hq0 : (0 : Int) ≤ ((lastN all z all.length : Nat) : Int) := by omega
        have HLs : Hid (∀ w' m g', SnIs w' d b c m all g' → Calls Try.prog 16 #[snp d, .int .i64 z] w' fun e w'' => e = .returned (.int .i64 (lastN all z all.length : Int)) ∧ w' = w'') := Lib.hid fun w' m g' t => slast_any w' z HZ.out t.raw
        clear HR1 HR2
        generalize lastN all z all.length = q at *
        go_wp2_with fail
        refine (HC1.out _ HS.out.sn).mono ?_
        rintro e w5 ⟨rfl, hb⟩
        have H5 := Lib.hid (HS.out.on hb)
        clear hb
        go_wp2_with (first
          | ((with_reducible refine wpList_ol_alloc (o := ⟨some 8, .alloc _, _, _, _, _⟩) rfl rfl ?_); intro w7 x7 hB7 hs7; clear hs7)
          | ((with_reducible refine wpList_ol_store (o := ⟨none, .store _ (.tmp 8) _, _, _, _, _⟩) rfl _ _ rfl w5.heap.size ol0 ol0 ol0_in ol0_in rfl rfl x7 ?_); go_loud (intro w8 x8 hg8 _; have H8 := Lib.hid (old_kept H5.out hB7 hg8); clear x7 hB7 hg8 x8))
          | fail)
        refine (snow_any w8 H8.out.sn.raw).mono ?_
        rintro e w9 ⟨rfl, rfl⟩
        go_wp2_with fail
        refine (HC2.out _ H8.out.sn).mono ?_
        rintro e w9 ⟨rfl, hb⟩
        have H9 := Lib.hid (H8.out.on hb)
        clear hb
        go_wp2_with (first
          | ((with_reducible refine wpList_ol_alloc (o := ⟨some 10, .alloc _, _, _, _, _⟩) rfl rfl ?_); intro w7 x7 hB7 hs7; clear hs7)
          | ((with_reducible refine wpList_ol_store (o := ⟨none, .store _ (.tmp 10) _, _, _, _, _⟩) rfl _ _ rfl w9.heap.size ol0 ol0 ol0_in ol0_in rfl rfl x7 ?_); go_loud (intro w10 x8 hg8 _; have H10 := Lib.hid (old_kept H9.out hB7 hg8); clear x7 hB7 hg8 x8))
          | fail)
        refine (snow_any w10 H10.out.sn.raw).mono ?_
        rintro e w11 ⟨rfl, rfl⟩
        go_wp2_with fail
        refine (snow_any w10 H10.out.sn.raw).mono ?_
        rintro e w11 ⟨rfl, rfl⟩
        go_wp2_with fail
        refine (forget_any d b c (n * 200) all g (all.length : Int) w10 H10.out.sn).mono ?_
        rintro e w11 ⟨rfl, hs, hf⟩
        have HM := Lib.hid (show max g (min (all.length : Int) (all.length : Int)).toNat = all.length by have := HS.out.sn.le; omega)
        rw [HM.out] at hs
        have H11 := Lib.hid (H10.out.turn hs hf)
        clear hs hf
        go_wp2_with fail
        refine (ssize_any w11 H11.out.sn.raw).mono ?_
        rintro e w12 ⟨rfl, rfl⟩
        rw [show (((kept all all.length).length : Nat) : Int) = 0 by unfold kept; rw [keptN_le (Nat.le_refl _)]; rfl]
        go_wp2_with fail
        refine (HLs.out w11 _ _ H11.out.sn).mono ?_
        rintro e w12 ⟨rfl, rfl⟩
        go_wp2
        go_ret
        exact ⟨ret_bool (by simp), H11.out.below⟩
set_option maxRecDepth 100000 in
set_option maxHeartbeats 4000000 in
theorem snlaw_forgets (A : Option Addr) (n cap : Nat) (L : List Av) (y z mo : Int) (w : World) (hz : W64 z) (hmo : 0 ≤ mo ∧ mo ≤ 255) (hn : n ≤ maxLen) (hl : L.length = n) (hr : Rd w w.heap.size A (avs L)) (hin : ∀ x ∈ L, AvIn w w.heap.size x) :
    Calls Try.prog 5 #[.slice A n cap, .int .i64 y, .int .i64 z, .int .u8 mo] w fun e w' => e = .returned (.bool true) ∧ Below w.heap.size w w' := by
  have HZ := Lib.hid hz
  obtain ⟨hmo0, hmo9⟩ := hmo
  clear hz
  have hy : y < 0 ∨ ¬ y < 0 := by omega
  have hy2 : 1000 < y ∨ ¬ 1000 < y := by omega
  have QW := Lib.hid fun w' => awake17_any w'
  have HN := Lib.hid (And.intro hl (And.intro hr hin))
  have HNm := Lib.hid hn
  clear hl hr hin hn
  go_enter Try.func5, Try.ntmps5
  go_wp2_with fail
  refine (QW.out _).mono ?_
  rintro e w1 ⟨rfl, hb1⟩
  have H1 := Lib.hid hb1
  clear hb1
  go_wp2_with fail
  refine (few_any A n cap L w1 HN.out.1 HNm.out ((HN.out.2.1.below H1.out).more H1.out.size) (fun x hx => ((HN.out.2.2 x hx).below H1.out).more H1.out.size)).mono ?_
  rintro e w2 ⟨⟨bv, rfl, hbv⟩, rfl⟩
  have HF := Lib.hid hbv
  clear hbv
  cases bv
  · clear HF
    go_wp2_with fail
    refine (QW.out _).mono ?_
    rintro e w9 ⟨rfl, hb9⟩
    have H9 := Lib.hid (bthen H1.out hb9)
    clear hb9
    go_wp2
    go_ret
    exact ⟨rfl, H9.out⟩
  · have HY := Lib.hid (HF.out rfl)
    have hn2 : n ≤ 200 := by have := fewy_len HY.out; rw [HN.out.1] at this; exact this
    clear HF
    rcases hy with hy | hy
    · skip
      go_wp2_with fail
      refine (QW.out _).mono ?_
      rintro e w9 ⟨rfl, hb9⟩
      have H9 := Lib.hid (bthen H1.out hb9)
      clear hb9
      go_wp2
      go_ret
      exact ⟨rfl, H9.out⟩
    rcases hy2 with hy2 | hy2
    · skip
      go_wp2_with fail
      refine (QW.out _).mono ?_
      rintro e w9 ⟨rfl, hb9⟩
      have H9 := Lib.hid (bthen H1.out hb9)
      clear hb9
      go_wp2
      go_ret
      exact ⟨rfl, H9.out⟩
    go_wp2_with fail
    refine (snew_any _).mono ?_
    rintro e w3 ⟨d, b, c, rfl, hs, q1, q2, q3, hb⟩
    have H3 : Hid (Own w w3 d b c 0 [] 0) := Lib.hid ⟨hs, Nat.le_trans H1.out.size q1, Nat.le_trans H1.out.size q2, Nat.le_trans H1.out.size q3, bthen H1.out hb⟩
    clear hs q1 q2 q3 hb
    go_wp2
    go_loopw [10] (fun i wr => ∃ k : Nat, k ≤ n ∧ i = .int .i64 k ∧ Own w wr d b c (k * 200) (actsK L k).1 (actsK L k).2) (fun i _ => n - (intOf i).toNat)
    case atStart => exact ⟨0, Nat.zero_le _, rfl, by rw [Nat.zero_mul]; exact H3.out⟩
    case round =>
      obtain ⟨k, hk, rfl, hst⟩ := hrel
      have HS := Lib.hid hst
      clear hst H3
      by_cases hlt : k < n
      · have hki : (k : Int) < (n : Int) := by omega
        have hkl : k < L.length := by rw [HN.out.1]; exact hlt
        have hx : L[k]? = some (L[k]'hkl) := List.getElem?_eq_getElem hkl
        obtain ⟨ad, rfl, hadb, c0, c1, c2⟩ := av_at (HN.out.2.1.below HS.out.below) hx
        have hxm := List.getElem_mem hkl
        have HX := Lib.hid (((HN.out.2.2 _ hxm).below HS.out.below).more HS.out.below.size)
        have HXf := Lib.hid (fewy_each HY.out _ hxm)
        have HStep := Lib.hid (actsK_step hx)
        generalize L[k]'hkl = x at *
        have HC := Lib.hid (ldo_any d b c (k * 200) (actsK L k).1 (actsK L k).2 x wr HS.out.sn HX.out HXf.out (by omega) (by have := actsK_len L k; omega))
        obtain ⟨xk, ⟨xo, xA, xc⟩, xn⟩ := x
        replace c1 : wr.cell? ⟨(ad.add (k * 3)).block, (ad.add (k * 3)).off + 1, none⟩ = some (.slice xA xo.length xc) := c1
        replace HC : Hid (Calls Try.prog 11 #[snp d, .agg #[.int .u8 xk, .slice xA xo.length xc, .int .i64 xn]] wr fun e w' => e = .returned (.tuple #[]) ∧ SnIs w' d b c (k * 200 + 200) (actS ((actsK L k).1, (actsK L k).2) ⟨xk, ⟨xo, xA, xc⟩, xn⟩).1 (actS ((actsK L k).1, (actsK L k).2) ⟨xk, ⟨xo, xA, xc⟩, xn⟩).2 ∧ Fr (Tri d b c) wr w') := HC
        clear hx hkl hxm hadb
        generalize xo.length = xl at *
        go_wp2_with fail
        refine HC.out.mono ?_
        rintro e w4 ⟨rfl, hs, hf⟩
        have H4 : Hid (Own w w4 d b c ((k + 1) * 200) (actsK L (k + 1)).1 (actsK L (k + 1)).2) := Lib.hid (by
          rw [HStep.out, show (k + 1) * 200 = k * 200 + 200 by omega]
          exact HS.out.turn hs hf)
        clear hs hf c0 c1 c2 HC
        go_wp2
        go_roundw
        case rel => exact ⟨k + 1, by omega, by go_num, H4.out⟩
        case measure => first | (simp [intOf]; done) | (simp [intOf]; omega)
      · obtain rfl : n = k := by omega
        have HAl := Lib.hid (actsK_len L n)
        generalize (actsK L n).1 = all at *
        generalize (actsK L n).2 = g at *
        have hmo1 := IntWalk.i64_in (mo % 5) (by omega)
        have hmo2 := IntWalk.i64_in (y + mo % 5) (by omega)
        have HE := Lib.hid (show rdv all (max g (min y all.length).toNat) z (y + mo % 5) = rdv all g z (y + mo % 5) by rw [rdv, from_forgot (by omega)])
        have HQ : Hid (OIn ((rdF all z (from_ g (y + mo % 5))).getD ol0)) := Lib.hid (rdF_in HS.out.sn (by unfold from_; omega))
        have HC1 := Lib.hid fun (w' : World) (t : SnIs w' d b c (n * 200) all g) => read_any d b c (n * 200) all g z (y + mo % 5) w' t HZ.out (by have := HAl.out; omega)
        have HC2 := Lib.hid fun (w' : World) (t : SnIs w' d b c (n * 200) all (max g (min y all.length).toNat)) => read_any d b c (n * 200) all (max g (min y all.length).toNat) z (y + mo % 5) w' t HZ.out (by have := HAl.out; omega)
        rw [HE.out] at HC2
        have HLs : Hid (∀ w' m g', SnIs w' d b c m all g' → Calls Try.prog 16 #[snp d, .int .i64 z] w' fun e w'' => e = .returned (.int .i64 (lastN all z all.length : Int)) ∧ w' = w'') := Lib.hid fun w' m g' t => slast_any w' z HZ.out t.raw
        have HKp := Lib.hid (kept_forgot all (g := g) (g' := max g (min y all.length).toNat) (by omega))
        have HFg := Lib.hid fun (w' : World) (t : SnIs w' d b c (n * 200) all g) => forget_any d b c (n * 200) all g y w' t
        clear HE
        unfold rdv at HC1 HC2
        generalize max g (min y (all.length : Int)).toNat = g2 at *
        generalize (rdF all z (from_ g (y + mo % 5))).isSome = s at *
        generalize (rdF all z (from_ g (y + mo % 5))).getD ol0 = q at *
        generalize lastN all z all.length = la at *
        have hle1 : (((kept all g2).length : Nat) : Int) ≤ (((kept all g).length : Nat) : Int) := by have := HKp.out; omega
        have HSz1 : Hid (∀ w', SnIs w' d b c (n * 200) all g → Calls Try.prog 18 #[snp d] w' fun e w'' => e = .returned (.int .i64 (((kept all g).length : Nat) : Int)) ∧ w' = w'') := Lib.hid fun w' t => ssize_any w' t.raw
        have HSz2 : Hid (∀ w', SnIs w' d b c (n * 200) all g2 → Calls Try.prog 18 #[snp d] w' fun e w'' => e = .returned (.int .i64 (((kept all g2).length : Nat) : Int)) ∧ w' = w'') := Lib.hid fun w' t => ssize_any w' t.raw
        clear HKp
        generalize (kept all g).length = k1 at *
        generalize (kept all g2).length = k2 at *
        go_wp2_with fail
        refine (HC1.out _ HS.out.sn).mono ?_
        rintro e w5 ⟨rfl, hb⟩
        have H5 := Lib.hid (HS.out.on hb)
        clear hb
        go_wp2_with (first
          | ((with_reducible refine wpList_ol_alloc (o := ⟨some 12, .alloc _, _, _, _, _⟩) rfl rfl ?_); intro w7 x7 hB7 hs7; clear hs7)
          | ((with_reducible refine wpList_ol_store (o := ⟨none, .store _ (.tmp 12) _, _, _, _, _⟩) rfl _ _ rfl w5.heap.size q ol0 HQ.out ol0_in rfl rfl x7 ?_); go_loud (intro w8 x8 hg8 _; have H8 := Lib.hid (And.intro (old_kept H5.out hB7 hg8) x8); clear x7 hB7 hg8 x8; generalize w5.heap.size = ba at *))
          | fail)
        refine (HLs.out w8 _ _ H8.out.1.sn).mono ?_
        rintro e w9 ⟨rfl, rfl⟩
        go_wp2_with fail
        refine (HSz1.out w8 H8.out.1.sn).mono ?_
        rintro e w9 ⟨rfl, rfl⟩
        go_wp2_with fail
        refine (HFg.out w8 H8.out.1.sn).mono ?_
        rintro e w11 ⟨rfl, hs, hf⟩
        have H11 := Lib.hid (And.intro (H8.out.1.turn hs hf) (H8.out.2.same (hf.same H8.out.2.lt (by
          rintro (h | h | h)
          · exact Box.ne H8.out.2 H8.out.1.sn.raw.bx (by decide) h
          · obtain ⟨f, hm, _⟩ := H8.out.1.sn.raw.ls
            exact hm.ne_box H8.out.2 h
          · exact H8.out.1.sn.raw.kp.ne_box H8.out.2 h))))
        clear hs hf
        go_wp2_with fail
        refine (HC2.out _ H11.out.1.sn).mono ?_
        rintro e w12 ⟨rfl, hb⟩
        have H12 := Lib.hid (And.intro (H11.out.1.on hb) (H11.out.2.on hb))
        clear hb
        obtain ⟨m3, hm3, hsz⟩ := big_size (P := Try.prog) (t := 38) (s := 34) (by kernel_rfl)
        have hm30 : ¬ m3 = 0 := by omega
        have HM3 := Lib.hid hm3
        have heq : ∀ W, (binOp .eql 38 (.agg (ocs q).toArray) (.agg (ocs q).toArray)).run Try.prog W = .ok (.bool true) W := fun W => by rw [eql_old W q q HQ.out HQ.out, (olEq_iff q q).2 rfl]
        clear hm3
        go_wp2_with (first
          | ((with_reducible refine wpList_ol_alloc (o := ⟨some 16, .alloc _, _, _, _, _⟩) rfl rfl ?_); intro w7 x7 hB7 hs7; clear hs7)
          | ((with_reducible refine wpList_ol_store (o := ⟨none, .store _ (.tmp 16) _, _, _, _, _⟩) rfl _ _ rfl w12.heap.size q ol0 HQ.out ol0_in rfl rfl x7 ?_); go_loud (intro w13 x8 hg8 _; have K8 := below_stored hB7 hg8 hB7.size (Nat.le_refl _); have H13 := Lib.hid (H12.out.1.on K8); have hla := (H12.out.2.on K8).olAll HQ.out HM3.out; have hlb := x8.olAll HQ.out HM3.out; clear x7 hB7 hg8 x8 K8; generalize w12.heap.size = bb at *))
          | fail)
        refine (HLs.out w13 _ _ H13.out.sn).mono ?_
        rintro e w14 ⟨rfl, rfl⟩
        go_wp2_with fail
        refine (HSz2.out w13 H13.out.sn).mono ?_
        rintro e w14 ⟨rfl, rfl⟩
        go_wp2
        go_ret
        exact ⟨ret_bool (by simp), H13.out.below⟩
end Go.Proofs.Ytjjomfpkdbfhdaa

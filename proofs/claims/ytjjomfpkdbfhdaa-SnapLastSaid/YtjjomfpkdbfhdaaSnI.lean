/-
  The document's answer for layer 17: Last, Read.
-/
import Derived.Test.YtjjomfpkdbfhdaaSnH
namespace Go.Proofs.Ytjjomfpkdbfhdaa
open Go.RowKit Word Snap
set_option linter.unusedVariables false

abbrev logv (A : Option Addr) (n cap : Nat) (g : Int) : Value := .agg #[.slice A n cap, .int .i64 g]
/-- a log in a variable of its own -/
theorem logBox (w : World) (T : TypeId) (A : Option Addr) (n cap : Nat) (g : Int) : Box (w.alloc (.cells #[.slice A n cap, .int .i64 g] T)) w.heap.size T [.slice A n cap, .int .i64 g] := Box.new w T [.slice A n cap, .int .i64 g]
set_option maxRecDepth 100000 in
set_option maxHeartbeats 4000000 in
theorem rlast_any (A : Option Addr) (n cap : Nat) (L : List Ov) (g z : Int) (w : World) (hl : L.length = n) (hn : n ≤ 100000) (hr : LRd w w.heap.size A L) :
    Calls Try.prog 17 #[logv A n cap g, .int .i64 z] w fun e w' => e = .returned (.int .i64 (lastN (Ov.all L) z n : Int)) ∧ Below w.heap.size w w' := by
  have HL := Lib.hid (And.intro hl hr)
  have hb0 : Below w.heap.size w (w.alloc (.cells #[.slice A n cap, .int .i64 g] 29)) := (Below.refl _ _).alloc (Nat.le_refl _) _
  have hx0 := logBox w 29 A n cap g
  clear hl hr
  go_enter Try.func17, Try.ntmps17
  go_wp2_with fail
  generalize World.alloc _ _ = w1 at hb0 hx0 ⊢
  have a0 : w1.cell? ⟨w.heap.size, 0, none⟩ = some (.slice A n cap) := hx0.cell 0
  have H1 := Lib.hid (And.intro hx0 hb0)
  clear hx0 hb0
  go_wp2
  clear a0
  go_loopw [5] (fun i wr => ∃ k : Nat, k ≤ n ∧ i = .int .i64 k ∧ Box wr w.heap.size 29 [.slice A n cap, .int .i64 g] ∧ Below w.heap.size w wr ∧ lastN (Ov.all L) z n = lastN (Ov.all L) z k) (fun i _ => (intOf i).toNat)
  case atStart => exact ⟨n, Nat.le_refl _, rfl, H1.out.1, H1.out.2, rfl⟩
  case round =>
    obtain ⟨k, hk, rfl, hx, hb, he⟩ := hrel
    have a0 : wr.cell? ⟨w.heap.size, 0, none⟩ = some (.slice A n cap) := hx.cell 0
    have H2 := Lib.hid (And.intro hx hb)
    clear hx hb H1
    rcases Nat.eq_zero_or_pos k with h0 | h0
    · subst h0
      have HE := Lib.hid he
      clear he
      go_wp2
      go_ret
      exact ⟨ret_nat HE.out, H2.out.2⟩
    · obtain ⟨j, rfl⟩ : ∃ j, k = j + 1 := ⟨k - 1, by omega⟩
      have hjl : j < L.length := by rw [HL.out.1]; omega
      have hx : L[j]? = some (L[j]'hjl) := List.getElem?_eq_getElem hjl
      have hrd := HL.out.2.below H2.out.2
      obtain ⟨ad, rfl, hadb, ca⟩ := hrd.at hx
      have hov := hrd.each _ (List.getElem_mem hjl)
      have hat := all_at hx
      generalize L[j]'hjl = x at *
      obtain ⟨xo, xA, xc⟩ := x
      simp only [Ov.v] at ca
      have HI := Lib.hid fun w' (hb : Below w.heap.size w w') => in_any xA xo.length xc xo z w' rfl (by have := hov.few; simp only at this; omega) hov.ins ((((HL.out.2.each _ (List.mem_of_getElem? hx)).rd.below hb).more hb.size))
      have HO := Lib.hid hov.ins
      have hki : (j : Int) < (n : Int) := by omega
      have HN : Hid (∀ q, inn xo z = q → lastN (Ov.all L) z n = if q.isSome = true then j + 1 else lastN (Ov.all L) z j) := Lib.hid fun q hq => by
        rw [he, ← hq]
        show (if (inn ((Ov.all L).getD j []) z).isSome = true then _ else _) = _
        rw [hat]
      clear hx hjl hrd hadb hov hat he
      generalize hxl : xo.length = xn at *
      go_wp2_with fail
      refine (HI.out _ H2.out.2).mono ?_
      rintro e w2 ⟨rfl, hb2⟩
      have H3 := Lib.hid (And.intro (H2.out.1.on hb2) (bthen H2.out.2 hb2))
      clear hb2 H2 a0
      have hb3 : (inn xo z).isSome = true ∨ inn xo z = none := by cases inn xo z <;> simp
      have HN2 := Lib.hid (HN.out _ rfl)
      have HQ : Hid (OIn ((inn xo z).getD ol0)) := Lib.hid (by
        cases h : inn xo z with
        | none => exact ol0_in
        | some o => exact HO.out o (inn_b h).2)
      rcases hb3 with hb3 | hb3
      · rw [hb3] at HN2
        rw [inv_, hb3]
        generalize (inn xo z).getD ol0 = q at *
        clear hb3 HN
        go_wp2_with (first
          | ((with_reducible refine wpList_ol_alloc (o := ⟨some 6, .alloc _, _, _, _, _⟩) rfl rfl ?_); intro w4 x4 hB4 hs4; clear hs4)
          | ((with_reducible refine wpList_ol_store (o := ⟨none, .store _ (.tmp 6) _, _, _, _, _⟩) rfl _ _ rfl w2.heap.size q ol0 HQ.out ol0_in rfl rfl x4 ?_); go_loud (intro w5 x5 hg5 _; have K5 := Lib.hid (bthen H3.out.2 (below_stored hB4 hg5 hB4.size (Nat.le_refl _))); clear x4 hB4 x5 hg5))
          | fail)
        go_ret
        exact ⟨by rw [HN2.out]; rfl, K5.out⟩
      · rw [hb3] at HN2
        rw [inv_, hb3]
        clear hb3 HN HQ
        go_wp2_with (first
          | ((with_reducible refine wpList_ol_alloc (o := ⟨some 6, .alloc _, _, _, _, _⟩) rfl rfl ?_); intro w4 x4 hB4 hs4; clear hs4)
          | ((with_reducible refine wpList_ol_store (o := ⟨none, .store _ (.tmp 6) _, _, _, _, _⟩) rfl _ _ rfl w2.heap.size ol0 ol0 ol0_in ol0_in rfl rfl x4 ?_); go_loud (intro w5 x5 hg5 _; have K5 := below_stored hB4 hg5 hB4.size (Nat.le_refl _); have H5 := Lib.hid (And.intro (H3.out.1.on K5) (bthen H3.out.2 K5)); clear x4 hB4 x5 hg5 K5))
          | fail)
        go_roundw
        case rel => exact ⟨j, by omega, by go_num, H5.out.1, H5.out.2, HN2.out⟩
        case measure => first | (simp [intOf]; done) | (simp [intOf]; omega)
/-- what the document's Read has in hand -/
structure RRd (w wr : World) (A : Option Addr) (n cap : Nat) (g : Int) : Prop where
  lg : Box wr w.heap.size 29 [.slice A n cap, .int .i64 g]
  rs : Box wr (w.heap.size + 1) 38 (ocs ol0)
  below : Below w.heap.size w wr
theorem RRd.on {w wr w' : World} {A : Option Addr} {n cap : Nat} {g : Int} (h : RRd w wr A n cap g) (hb : Below wr.heap.size wr w') : RRd w w' A n cap g := ⟨h.lg.on hb, h.rs.on hb, bthen h.below hb⟩
theorem rd_no {all : List (List Ol)} {z : Int} {m k : Nat} {r : Option Ol} (h : rdF all z m = rdF all z (max m k)) (hn : k < m ∨ inn (all.getD k []) z = none) : rdF all z m = rdF all z (max m (k + 1)) := by
  rw [h]
  by_cases hk : k < m
  · rw [show max m k = m by omega, show max m (k + 1) = m by omega]
  · have h2 : inn (all.getD k []) z = none := by rcases hn with hn | hn; omega; exact hn
    rw [show max m k = k by omega, show max m (k + 1) = k + 1 by omega]
    exact rdF_over (Nat.le_succ _) fun i h3 h4 => by
      obtain rfl : i = k := by omega
      exact h2
theorem rd_yes {all : List (List Ol)} {z : Int} {m k : Nat} {o : Ol} (h : rdF all z m = rdF all z (max m k)) (hk : k < all.length) (hm : m ≤ k) (ho : inn (all.getD k []) z = some o) : rdF all z m = some o := by
  rw [h, show max m k = k by omega]
  exact rdF_hit hk ho
set_option maxRecDepth 100000 in
set_option maxHeartbeats 4000000 in
theorem rread_any (A : Option Addr) (n cap : Nat) (L : List Ov) (g : Nat) (z y : Int) (w : World) (hl : L.length = n) (hn : n ≤ 100000) (hr : LRd w w.heap.size A L) :
    Calls Try.prog 14 #[logv A n cap g, .int .i64 z, .int .i64 y] w fun e w' => e = .returned (rdv (Ov.all L) g z y) ∧ Below w.heap.size w w' := by
  obtain ⟨m3, hm3, hsz⟩ := big_size (P := Try.prog) (t := 38) (s := 34) (by kernel_rfl)
  have hm30 : ¬ m3 = 0 := by omega
  have HM := Lib.hid hm3
  have HL := Lib.hid (And.intro hl hr)
  have hb0 : Below w.heap.size w (w.alloc (.cells #[.slice A n cap, .int .i64 g] 29)) := (Below.refl _ _).alloc (Nat.le_refl _) _
  have hx0 := logBox w 29 A n cap g
  have hs0 : (w.alloc (.cells #[.slice A n cap, .int .i64 g] 29)).heap.size = w.heap.size + 1 := by simp
  have H0 := Lib.hid (And.intro hb0 (And.intro hx0 hs0))
  clear hl hr hm3 hb0 hx0 hs0
  go_enter Try.func14, Try.ntmps14
  go_wp2_with (first
    | ((with_reducible refine wpList_ol_alloc (o := ⟨some 6, .alloc _, _, _, _, _⟩) rfl rfl ?_); go_loud (intro w1 x1 hB1 hs1; rw [H0.out.2.2] at x1 ⊢; have H1 : Hid (RRd w w1 A n cap g) := Lib.hid ⟨H0.out.2.1.on hB1, x1, bthen H0.out.1 hB1⟩; clear x1 hB1 hs1 H0))
    | fail)
  go_loopw [8] (fun i wr => ∃ k : Nat, k ≤ n ∧ i = .int .i64 k ∧ RRd w wr A n cap g ∧ rdF (Ov.all L) z (from_ g y) = rdF (Ov.all L) z (max (from_ g y) k)) (fun i _ => n - (intOf i).toNat)
  case atStart => exact ⟨0, by omega, rfl, H1.out, by rw [Nat.max_zero]⟩
  case round =>
    obtain ⟨k, hk, rfl, hst, he⟩ := hrel
    have a0 : wr.cell? ⟨w.heap.size, 0, none⟩ = some (.slice A n cap) := hst.lg.cell 0
    have H2 := Lib.hid hst
    clear hst H1
    by_cases hlt : k < n
    · have hki : (k : Int) < (n : Int) := by omega
      have hjl : k < L.length := by rw [HL.out.1]; exact hlt
      have hx : L[k]? = some (L[k]'hjl) := List.getElem?_eq_getElem hjl
      have hrd := HL.out.2.below H2.out.below
      obtain ⟨ad, rfl, hadb, ca⟩ := hrd.at hx
      have hov := hrd.each _ (List.getElem_mem hjl)
      have hat := all_at hx
      generalize L[k]'hjl = x at *
      obtain ⟨xo, xA, xc⟩ := x
      simp only [Ov.v] at ca
      have hat : (Ov.all L).getD k [] = xo := hat
      have HI := Lib.hid fun w' (hb : Below w.heap.size w w') => in_any xA xo.length xc xo z w' rfl (by have := hov.few; simp only at this; omega) hov.ins ((((HL.out.2.each _ (List.mem_of_getElem? hx)).rd.below hb).more hb.size))
      have HO := Lib.hid hov.ins
      have HN := Lib.hid (And.intro he (And.intro hat (show k < (Ov.all L).length by rw [all_len]; exact hjl)))
      clear hx hjl hrd hadb hov hat he
      generalize hxl : xo.length = xn at *
      go_wp2_with fail
      refine (HI.out _ H2.out.below).mono ?_
      rintro e w2 ⟨rfl, hb2⟩
      have H3 := Lib.hid (H2.out.on hb2)
      clear hb2 H2 a0 hxl HI
      cases hq : inn xo z with
      | none =>
        have HE := Lib.hid (rd_no (r := none) HN.out.1 (.inr (by rw [HN.out.2.1]; exact hq)))
        rw [inv_, hq]
        clear hq HN
        go_wp2_with (first
          | ((with_reducible refine wpList_ol_alloc (o := ⟨some 9, .alloc _, _, _, _, _⟩) rfl rfl ?_); intro w4 x4 hB4 hs4; clear hs4)
          | ((with_reducible refine wpList_ol_store (o := ⟨none, .store _ (.tmp 9) _, _, _, _, _⟩) rfl _ _ rfl w2.heap.size ol0 ol0 ol0_in ol0_in rfl rfl x4 ?_); go_loud (intro w5 x5 hg5 _; have K5 := below_stored hB4 hg5 hB4.size (Nat.le_refl _); have H5 := Lib.hid (H3.out.on K5); have a1 : w5.cell? ⟨w.heap.size, 1, none⟩ = some (.int .i64 (g : Int)) := H5.out.lg.cell 1; have hld := x5.olAll ol0_in HM.out; clear x4 hB4 x5 hg5 K5; generalize w2.heap.size = bx at *))
          | fail)
        go_roundw
        case rel => exact ⟨k + 1, by omega, by go_num, H5.out, HE.out⟩
        case measure => first | (simp [intOf]; done) | (simp [intOf]; omega)
      | some q =>
        have HQ := Lib.hid (HO.out q (inn_b hq).2)
        rw [inv_, hq]
        by_cases h1 : y ≤ (k : Int)
        · by_cases h2 : g ≤ k
          · have HE := Lib.hid (rd_yes HN.out.1 HN.out.2.2 (show from_ g y ≤ k by unfold from_; omega) (by rw [HN.out.2.1]; exact hq))
            have h2i : (g : Int) ≤ (k : Int) := by omega
            clear hq HN
            go_wp2_with (first
              | ((with_reducible refine wpList_ol_alloc (o := ⟨some 9, .alloc _, _, _, _, _⟩) rfl rfl ?_); intro w4 x4 hB4 hs4; clear hs4)
              | ((with_reducible refine wpList_ol_store (o := ⟨none, .store _ (.tmp 9) _, _, _, _, _⟩) rfl _ _ rfl w2.heap.size q ol0 HQ.out ol0_in rfl rfl x4 ?_); go_loud (intro w5 x5 hg5 _; have K5 := below_stored hB4 hg5 hB4.size (Nat.le_refl _); have H5 := Lib.hid (H3.out.on K5); have a1 : w5.cell? ⟨w.heap.size, 1, none⟩ = some (.int .i64 (g : Int)) := H5.out.lg.cell 1; have hld := x5.olAll HQ.out HM.out; clear x4 hB4 x5 hg5 K5; generalize w2.heap.size = bx at *))
              | ((with_reducible refine wpList_ol_store (o := ⟨none, .store _ (.tmp 6) _, _, _, _, _⟩) rfl _ _ rfl (w.heap.size + 1) q ol0 HQ.out ol0_in rfl rfl H5.out.rs ?_); go_loud (intro w6 x6 hg6 _))
              | fail)
            have hldF := x6.olAll HQ.out HM.out
            have KB : Below w.heap.size w w6 := below_stored H5.out.below hg6 H5.out.below.size (by omega)
            exact bodyPost_ret (v := .tuple #[.agg (ocs q).toArray, .bool true]) (by simp [results, Try.results14, go_sem, hsz, hldF]) rfl ⟨by rw [rdv, HE.out]; rfl, KB⟩

          · have HE := Lib.hid (rd_no (r := none) HN.out.1 (.inl (show k < from_ g y by unfold from_; omega)))
            have h2b : decide (g ≤ k) = false := decide_eq_false h2
            clear hq HN h2
            go_wp2_with (first
              | ((with_reducible refine wpList_ol_alloc (o := ⟨some 9, .alloc _, _, _, _, _⟩) rfl rfl ?_); intro w4 x4 hB4 hs4; clear hs4)
              | ((with_reducible refine wpList_ol_store (o := ⟨none, .store _ (.tmp 9) _, _, _, _, _⟩) rfl _ _ rfl w2.heap.size q ol0 HQ.out ol0_in rfl rfl x4 ?_); go_loud (intro w5 x5 hg5 _; have K5 := below_stored hB4 hg5 hB4.size (Nat.le_refl _); have H5 := Lib.hid (H3.out.on K5); have a1 : w5.cell? ⟨w.heap.size, 1, none⟩ = some (.int .i64 (g : Int)) := H5.out.lg.cell 1; have hld := x5.olAll HQ.out HM.out; clear x4 hB4 x5 hg5 K5; generalize w2.heap.size = bx at *))
              | fail)
            go_roundw
            case rel => exact ⟨k + 1, by omega, by go_num, H5.out, HE.out⟩
            case measure => first | (simp [intOf]; done) | (simp [intOf]; omega)

        · have HE := Lib.hid (rd_no (r := none) HN.out.1 (.inl (show k < from_ g y by unfold from_; omega)))
          have h1b : decide (y ≤ (k : Int)) = false := decide_eq_false h1
          clear hq HN h1
          go_wp2_with (first
            | ((with_reducible refine wpList_ol_alloc (o := ⟨some 9, .alloc _, _, _, _, _⟩) rfl rfl ?_); intro w4 x4 hB4 hs4; clear hs4)
            | ((with_reducible refine wpList_ol_store (o := ⟨none, .store _ (.tmp 9) _, _, _, _, _⟩) rfl _ _ rfl w2.heap.size q ol0 HQ.out ol0_in rfl rfl x4 ?_); go_loud (intro w5 x5 hg5 _; have K5 := below_stored hB4 hg5 hB4.size (Nat.le_refl _); have H5 := Lib.hid (H3.out.on K5); have a1 : w5.cell? ⟨w.heap.size, 1, none⟩ = some (.int .i64 (g : Int)) := H5.out.lg.cell 1; have hld := x5.olAll HQ.out HM.out; clear x4 hB4 x5 hg5 K5; generalize w2.heap.size = bx at *))
            | fail)
          go_roundw
          case rel => exact ⟨k + 1, by omega, by go_num, H5.out, HE.out⟩
          case measure => first | (simp [intOf]; done) | (simp [intOf]; omega)

    · obtain rfl : n = k := by omega
      have HE := Lib.hid (show rdF (Ov.all L) z (from_ g y) = none by rw [he]; exact rdF_end (by rw [all_len, HL.out.1]; omega))
      clear he
      go_wp2_with (first
        | ((with_reducible refine wpList_build_zero _ (o := ⟨some 41, .build _ _, _, _, _, _⟩) rfl _ rfl (ocs ol0) build_old0 ?_))
        | ((with_reducible refine wpList_ol_store (o := ⟨none, .store _ (.tmp 6) _, _, _, _, _⟩) rfl _ _ rfl (w.heap.size + 1) ol0 ol0 ol0_in ol0_in rfl rfl H2.out.rs ?_); go_loud (intro w6 x6 hg6 _))
        | fail)
      have hldF := x6.olAll ol0_in HM.out
      have KB : Below w.heap.size w w6 := below_stored H2.out.below hg6 H2.out.below.size (by omega)
      exact bodyPost_ret (v := .tuple #[.agg (ocs ol0).toArray, .bool false]) (by simp [results, Try.results14, go_sem, hsz, hldF]) rfl ⟨by rw [rdv, HE.out]; rfl, KB⟩
end Go.Proofs.Ytjjomfpkdbfhdaa

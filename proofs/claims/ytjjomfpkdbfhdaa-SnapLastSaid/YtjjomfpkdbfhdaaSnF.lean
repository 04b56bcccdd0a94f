/-
  Package snap: Read.
-/
import Derived.Test.YtjjomfpkdbfhdaaSnE
namespace Go.Proofs.Ytjjomfpkdbfhdaa
open Go.RowKit Word Snap
set_option linter.unusedVariables false

/-- what Read has in hand -/
structure RdSt (w wr : World) (d b c m : Nat) (all : List (List Ol)) (g : Nat) (z n : Int) (q j : Nat) (f : Option Ol) (x : Ol × Int) : Prop where
  bk : Bk all g z n q j f
  bx : Box wr (w.heap.size + 1) 63 (wcs x)
  xin : OIn x.1
  xo : x.1 = f.getD ol0
  rs : Box wr w.heap.size 38 (ocs ol0)
  sn : SnIs wr d b c m all g
  below : Below w.heap.size w wr
  far : w.heap.size + 1 < wr.heap.size
theorem RdSt.put {w wr w4 w5 : World} {d b c m : Nat} {all : List (List Ol)} {g : Nat} {z n : Int} {q j q2 j2 : Nat} {f : Option Ol} {x y : Ol × Int} (h : RdSt w wr d b c m all g z n q j f x) (t : SnIs w d b c m all g) (hb : Below wr.heap.size wr w4) (hg : w4.grownBy w5 (some (w.heap.size + 1)))
    (x5 : Box w5 (w.heap.size + 1) 63 (wcs y)) (hy : OIn y.1) (hbk : Bk all g z n q2 j2 (some y.1)) : RdSt w w5 d b c m all g z n q2 j2 (some y.1) y := by
  have k4 := bthen h.below hb
  have k5 : Below w.heap.size w w5 := below_stored k4 hg k4.size (by omega)
  have h1 := h.far
  have h2 := hb.size
  have h3 := hg.size
  exact ⟨hbk, x5, hy, rfl, (h.rs.on hb).grown hg (by omega), t.on k5, k5, by omega⟩
theorem RdSt.on {w wr w4 : World} {d b c m : Nat} {all : List (List Ol)} {g : Nat} {z n : Int} {q j : Nat} {f : Option Ol} {x : Ol × Int} (h : RdSt w wr d b c m all g z n q j f x) (hb : Below wr.heap.size wr w4) : RdSt w w4 d b c m all g z n q j f x := by
  have h1 := h.far
  have h2 := hb.size
  exact ⟨h.bk, h.bx.on hb, h.xin, h.xo, h.rs.on hb, h.sn.on hb, bthen h.below hb, by omega⟩
/-- what Read answers -/
abbrev rdv (all : List (List Ol)) (g : Nat) (z n : Int) : Value := .tuple #[.agg (ocs ((rdF all z (from_ g n)).getD ol0)).toArray, .bool (rdF all z (from_ g n)).isSome]
set_option maxRecDepth 100000 in
set_option maxHeartbeats 4000000 in
theorem read_any (d b c m : Nat) (all : List (List Ol)) (g : Nat) (z n : Int) (w : World) (t : SnIs w d b c m all g) (hz : W64 z) (hn : all.length ≤ 100000) :
    Calls Try.prog 13 #[snp d, .int .i64 z, .int .i64 n] w fun e w' => e = .returned (rdv all g z n) ∧ Below w.heap.size w w' := by
  obtain ⟨m3, hm3, hsz⟩ := big_size (P := Try.prog) (t := 38) (s := 34) (by kernel_rfl)
  obtain ⟨m5, hm5, hsw⟩ := big_size (P := Try.prog) (t := 63) (s := 35) (by kernel_rfl)
  have hm30 : ¬ m3 = 0 := by omega
  have hm50 : ¬ m5 = 0 := by omega
  have HM := Lib.hid (And.intro hm3 hm5)
  have HT := Lib.hid t
  have HZ := Lib.hid (And.intro hz hn)
  clear hm3 hm5 t hz hn
  go_enter Try.func13, Try.ntmps13
  go_wp2_with (first
    | ((with_reducible refine wpList_ol_alloc (o := ⟨some 6, .alloc _, _, _, _, _⟩) rfl rfl ?_); intro w1 x1 hB1 hs1)
    | ((with_reducible refine wpList_was_alloc (o := ⟨some 8, .alloc _, _, _, _, _⟩) rfl rfl ?_); intro w2 x2 hB2 hs2; have S2 := HT.out.on (bthen hB1 hB2); obtain ⟨c0, c1, c2, c3⟩ := S2.raw.mem; have hlk := S2.raw.lastly HZ.out.1; have R2 : RdSt w w2 d b c m all g z n (lastN all z all.length) all.length none w0 := ⟨Bk.start HT.out.le, by rw [← hs1]; exact x2, ol0_in, rfl, x1.on hB2, S2, bthen hB1 hB2, by omega⟩; rw [hs1]; clear x1 hB1 x2 hB2 S2; have HR2 := Lib.hid R2; clear R2 hs1 hs2)
    | fail)
  generalize lastN all z all.length = q0 at *
  clear c0 c1 c2 c3 hlk
  go_loopw [9, 10] (fun v9 v10 wr => ∃ (q j : Nat) (f : Option Ol) (x : Ol × Int), v9 = .bool f.isSome ∧ v10 = .int .i64 q ∧ RdSt w wr d b c m all g z n q j f x) (fun _ v10 _ => (intOf v10).toNat)
  case atStart => exact ⟨_, _, _, _, rfl, rfl, HR2.out⟩
  case round =>
    obtain ⟨q, j, f, x, rfl, rfl, hst⟩ := hrel
    obtain ⟨c0, c1, c2, c3⟩ := hst.sn.raw.mem
    have HS := Lib.hid hst
    clear hst HR2
    by_cases h1 : n < (q : Int)
    · by_cases h2 : g < q
      · obtain ⟨o, ho, hmem, hbk, hob⟩ := HS.out.bk.more h1 h2
        have hlk := HS.out.sn.raw.kp.look_yes Try.underlying59 hmem
        have HO := Lib.hid (And.intro (HS.out.sn.raw.kp.ins _ hmem).2 hbk)
        have HQ := Lib.hid (show lastN all z (q - 1) < q from by have := lastN_le (all := all) (b := z) (q - 1); omega)
        clear ho hmem hbk hob h2
        generalize lastN all z (q - 1) = q2 at *
        go_wp2_with (first
          | ((with_reducible refine wpList_was_alloc (o := ⟨some 11, .alloc _, _, _, _, _⟩) rfl rfl ?_); intro w3 x3 hB3 hs3; clear hs3)
          | ((with_reducible refine wpList_was_store (o := ⟨none, .store _ (.tmp 11) _, _, _, _, _⟩) rfl _ _ rfl wr.heap.size (o, (q2 : Int)) w0 HO.out.1 ol0_in rfl rfl x3 ?_); go_loud (intro w4 x4 hg4 _; have K4 := below_stored hB3 hg4 hB3.size (Nat.le_refl _); have hldw := x4.wasAll HO.out.1 HM.out.2; have H4 := Lib.hid (And.intro K4 (HS.out.bx.on K4)); clear x3 hB3 x4 hg4 K4 c0 c1 c2 c3 hlk; generalize wr.heap.size = bx at hldw ⊢))
          | ((with_reducible refine wpList_was_store (o := ⟨none, .store _ (.tmp 8) _, _, _, _, _⟩) rfl _ _ rfl (w.heap.size + 1) (o, (q2 : Int)) x HO.out.1 HS.out.xin rfl rfl H4.out.2 ?_); go_loud (intro w5 x5 hg5 _; have c34 := x5.was HO.out.1; have H5 := Lib.hid (HS.out.put HT.out H4.out.1 hg5 x5 HO.out.1 HO.out.2); clear hldw x5 hg5))
          | fail)
        go_roundw
        case rel => exact ⟨q2, q - 1, some o, (o, (q2 : Int)), rfl, rfl, H5.out⟩
        case measure => have := HQ.out; simp [intOf]; omega
      · have hlk := HS.out.sn.raw.kp.look_no Try.underlying59 (a := (z, (q : Int))) HZ.out.1 (w64_of (by omega) (by have h3 := HS.out.bk.last; have h4 := HS.out.bk.le; have h5 := lastN_le (all := all) (b := z) j; have := HZ.out.2; omega)) (kept_gone (by omega))
        have HE := Lib.hid (HS.out.bk.ends (by omega))
        clear h2
        go_wp2_with (first
          | ((with_reducible refine wpList_was_alloc (o := ⟨some 11, .alloc _, _, _, _, _⟩) rfl rfl ?_); intro w3 x3 hB3 hs3; clear hs3)
          | ((with_reducible refine wpList_was_store (o := ⟨none, .store _ (.tmp 11) _, _, _, _, _⟩) rfl _ _ rfl wr.heap.size w0 w0 ol0_in ol0_in rfl rfl x3 ?_); go_loud (intro w4 x4 hg4 _; have K4 := below_stored hB3 hg4 hB3.size (Nat.le_refl _); have H4 := Lib.hid (HS.out.on K4); have hldo := (HS.out.bx.on K4).wasOld HS.out.xin HM.out.1; clear x3 hB3 x4 hg4 K4 c0 c1 c2 c3 hlk; generalize wr.heap.size = bx at *))
          | ((with_reducible refine wpList_ol_store (o := ⟨none, .store _ (.tmp 6) _, _, _, _, _⟩) rfl _ _ rfl w.heap.size x.1 ol0 HS.out.xin ol0_in rfl rfl H4.out.rs ?_); go_loud (intro w5 x5 hg5 _))
          | fail)
        have hldF := x5.olAll HS.out.xin HM.out.1
        have KB : Below w.heap.size w w5 := below_stored H4.out.below hg5 H4.out.below.size (Nat.le_refl _)
        have HXO := HS.out.xo
        exact bodyPost_ret (v := .tuple #[.agg (ocs x.1).toArray, .bool f.isSome]) (by simp [results, Try.results13, go_sem, hsz, hldF]) rfl ⟨by rw [HXO, HE.out], KB⟩
    · have HE := Lib.hid (HS.out.bk.ends (by omega))
      have hldo := HS.out.bx.wasOld HS.out.xin HM.out.1
      go_wp2_with (first
        | ((with_reducible refine wpList_ol_store (o := ⟨none, .store _ (.tmp 6) _, _, _, _, _⟩) rfl _ _ rfl w.heap.size x.1 ol0 HS.out.xin ol0_in rfl rfl HS.out.rs ?_); go_loud (intro w5 x5 hg5 _))
        | fail)
      have hldF := x5.olAll HS.out.xin HM.out.1
      have KB : Below w.heap.size w w5 := below_stored HS.out.below hg5 HS.out.below.size (Nat.le_refl _)
      have HXO := HS.out.xo
      exact bodyPost_ret (v := .tuple #[.agg (ocs x.1).toArray, .bool f.isSome]) (by simp [results, Try.results13, go_sem, hsz, hldF]) rfl ⟨by rw [HXO, HE.out], KB⟩
end Go.Proofs.Ytjjomfpkdbfhdaa

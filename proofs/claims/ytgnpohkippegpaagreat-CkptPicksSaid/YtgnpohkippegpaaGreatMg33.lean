/-
  TbH Isa TbI
-/
import Derived.Test.YtgnpohkippegpaaGreatMg32
import Derived.Test.YtgnpohkippegpaaGreatMg05
import Derived.Test.YtgnpohkippegpaaGreatMg21
import Derived.Test.YtgnpohkippegpaaGreatMg00
/-
  Package table: Of.
-/
namespace Go.Proofs.YtgnpohkippegpaaGreat
open Go.RowKit Leaf Tbl
set_option linter.unusedVariables false

namespace Tbl
/-- leaves are laid one behind the other, none of them twice -/
def ofK (n : Nat) : List Lf → List Int → List Bool → Option (List Int)
  | [], ys, _ => some ys
  | l :: ls, ys, sn => if fitsB n l = true ∧ sn.getD l.index.toNat false = false then ofK n ls (lay ys (l.index.toNat * 10) l.places) (sn.set l.index.toNat true) else none
def ofT (n : Nat) (ls : List Lf) : Option (List Int) := if ls.length = pages n then ofK n ls (List.replicate (10 * pages n) 0) (List.replicate (pages n) false) else none
theorem ofK_yes {n : Nat} {l : Lf} {ls : List Lf} {ys : List Int} {sn : List Bool} (h1 : fitsB n l = true) (h2 : sn.getD l.index.toNat false = false) : ofK n (l :: ls) ys sn = ofK n ls (lay ys (l.index.toNat * 10) l.places) (sn.set l.index.toNat true) := by
  rw [ofK, if_pos ⟨h1, h2⟩]
theorem ofK_no {n : Nat} {l : Lf} {ls : List Lf} {ys : List Int} {sn : List Bool} (h : fitsB n l = false ∨ sn.getD l.index.toNat false = true) : ofK n (l :: ls) ys sn = none := by
  rw [ofK, if_neg]
  rintro ⟨h1, h2⟩
  rcases h with h | h
  · rw [h] at h1; cases h1
  · rw [h] at h2; cases h2
theorem fits_yes {n : Nat} {l : Lf} (h : fitsB n l = true) : Fits n l := of_decide_eq_true h
end Tbl
/-- what Of answers -/
def OfPost (w w' : World) (n : Nat) (R : Option (List Int)) (e : Ending) : Prop :=
  match R with
  | none => e = .returned (.tuple #[.pointer none, .int .i64 7])
  | some ys => ∃ d g h, e = .returned (.tuple #[tp d, .int .i64 0]) ∧ TbIs w' d g h n ys (List.replicate (pages n) false) ∧ w.heap.size ≤ d ∧ w.heap.size ≤ g ∧ w.heap.size ≤ h
theorem OfPost.no {w w' : World} {n : Nat} {R : Option (List Int)} {e : Ending} (h : R = none) (he : e = .returned (.tuple #[.pointer none, .int .i64 7])) : OfPost w w' n R e := by subst h; exact he
theorem OfPost.yes {w w' : World} {n : Nat} {R : Option (List Int)} {e : Ending} {d g h : Nat} {ys : List Int} (hR : some ys = R) (he : e = .returned (.tuple #[tp d, .int .i64 0])) (t : TbIs w' d g h n ys (List.replicate (pages n) false)) (h1 : w.heap.size ≤ d) (h2 : w.heap.size ≤ g) (h3 : w.heap.size ≤ h) : OfPost w w' n R e := by subst hR; exact ⟨d, g, h, he, t, h1, h2, h3⟩
theorem TbIs.fr {T : Nat → Prop} {w w' : World} {d g h n : Nat} {ys : List Int} {ds : List Bool} (t : TbIs w d g h n ys ds) (f : Fr T w w') (h1 : ¬ T d) (h2 : ¬ T g) (h3 : ¬ T h) : TbIs w' d g h n ys ds :=
  ⟨t.tb.same (f.same t.tb.lt h1), t.lv.same (f.same t.lv.lt h2), t.dt.same (f.same t.dt.lt h3), t.hn, t.hy, t.hd⟩
theorem Box.fr {T : Nat → Prop} {w w' : World} {b : Nat} {ty : TypeId} {cs : List Value} (x : Box w b ty cs) (f : Fr T w w') (h : ¬ T b) : Box w' b ty cs := x.same (f.same x.lt h)
theorem lfls_at {ls : List Lf} (h : ∀ l ∈ ls, In l) {k j : Nat} {l : Lf} {v : Value} (hk : ls[k]? = some l) (hv : (lcs l)[j]? = some v) : (lfls ls)[k * 12 + j]? = some v := by
  induction ls generalizing k with
  | nil => simp at hk
  | cons x ls ih =>
    have hx := lcs_length (h x List.mem_cons_self)
    rw [lfls_cons]
    cases k with
    | zero =>
      obtain rfl : x = l := by simpa using hk
      have hj : j < (lcs x).length := (List.getElem?_eq_some_iff.1 hv).1
      rw [Nat.zero_mul, Nat.zero_add, List.getElem?_append_left hj]
      exact hv
    | succ k =>
      rw [List.getElem?_append_right (by omega), hx, show (k + 1) * 12 + j - 12 = k * 12 + j by omega]
      exact ih (fun y hy => h y (List.mem_cons_of_mem _ hy)) (by simpa using hk)
theorem tof_arg (b : Int) (A : Option Addr) (len cap : Nat) (w : World) (hb : rightN b = false) :
    Calls Tryz.prog 94 #[.int .i64 b, .slice A len cap] w fun e w' => e = .returned (.tuple #[.pointer none, .int .i64 1]) ∧ w = w' := by
  have HR := Lib.hid (tright_any w b)
  rw [hb] at HR
  clear hb
  go_enter Tryz.func94, Tryz.ntmps94
  go_wp2_with fail
  refine HR.out.mono ?_
  rintro e w' ⟨rfl, rfl⟩
  go_wp2
  go_ret2
  exact ⟨rfl, rfl⟩
set_option maxRecDepth 100000 in
theorem tof_any (n : Nat) (A : Option Addr) (cap : Nat) (ls : List Lf) (w : World) (hn : n ≤ 4096) (hin : ∀ l ∈ ls, In l) (hl : ls.length ≤ 1000) (hr : Rd w w.heap.size A (lfls ls)) :
    Calls Tryz.prog 94 #[.int .i64 n, .slice A ls.length cap] w fun e w' => OfPost w w' n (ofT n ls) e ∧ Below w.heap.size w w' := by
  obtain ⟨m, hm, hsz⟩ := big_size (P := Tryz.prog) (t := 101) (s := 10) (by kernel_rfl)
  obtain ⟨mt, hmt, hszt⟩ := big_size (P := Tryz.prog) (t := 84) (s := 10) (by kernel_rfl)
  obtain ⟨mr, hmr, hszr⟩ := big_size (P := Tryz.prog) (t := 86) (s := 12) (by kernel_rfl)
  have hm0 : ¬ m = 0 := by omega
  have hmt0 : ¬ mt = 0 := by omega
  have hmr0 : ¬ mr = 0 := by omega
  have HM := Lib.hid (And.intro hm (And.intro hmt hmr))
  have HR := Lib.hid (tright_any w (n : Int))
  rw [show rightN n = true by unfold rightN; simp; omega] at HR
  have HN := Lib.hid (tbnew_any n w hn)
  have HRd := Lib.hid hr
  have HIn := Lib.hid hin
  have HOf : Hid (ofT n ls = if ls.length = pages n then ofK n ls (List.replicate (10 * pages n) 0) (List.replicate (pages n) false) else none) := Lib.hid rfl
  clear hm hmt hmr hr hin
  generalize hRes : ofT n ls = Res at *
  generalize hLn : ls.length = len at *
  have HLn := Lib.hid hLn
  clear hRes hLn
  go_enter Tryz.func94, Tryz.ntmps94
  go_wp2_with fail
  refine HR.out.mono ?_
  rintro e w0 ⟨rfl, rfl⟩
  go_wp2_with fail
  refine HN.out.mono ?_
  rintro e w1 ⟨d, g, h, rfl, t1, hd1, hg1, hh1, hb1⟩
  have T1 := Lib.hid t1
  have B1 := Lib.hid hb1
  have G1 := Lib.hid (And.intro hd1 (And.intro hg1 hh1))
  obtain ⟨c1, c2⟩ := t1.rows
  have hp := pages_le hn
  clear t1 hd1 hg1 hh1 hb1 HN HR
  by_cases hlen : len = pages n
  · rw [if_pos hlen] at HOf
    subst hlen
    have hmk := fun w' => make_flags w' (pages n) (by omega)
    generalize hD0 : bls (List.replicate (pages n) false) = D0 at hmk
    have HD0 : Hid (D0 = bls (List.replicate (pages n) false)) := Lib.hid hD0.symm
    clear hD0
    have hqq : ((pages n : Int) != (pages n : Int)) = false := by simp
    go_wp2
    have T2 := Lib.hid (T1.out.on ((Below.refl w1.heap.size w1).alloc (Nat.le_refl _) (.cells D0.toArray 4 (0, 0))))
    have S2 := Lib.hid (Box.new w1 4 D0)
    have B2 := Lib.hid (B1.out.alloc B1.out.size (.cells D0.toArray 4 (0, 0)))
    have G2 := Lib.hid (And.intro T1.out.tb.lt (And.intro T1.out.lv.lt (And.intro T1.out.dt.lt B1.out.size)))
    generalize hW : w1.alloc (.cells D0.toArray 4) = w2 at *
    clear hW hmk c1 c2 B1 T1 hqq
    generalize w1.heap.size = s at *
    go_loopw [28] (fun i wr => ∃ k : Nat, k ≤ pages n ∧ i = .int .i64 k ∧ ∃ ys sn, TbIs wr d g h n ys (List.replicate (pages n) false) ∧ Box wr s 4 (bls sn) ∧ sn.length = pages n ∧ Res = ofK n (ls.drop k) ys sn ∧ Below w.heap.size w wr) (fun i _ => pages n - (intOf i).toNat)
    case atStart => exact ⟨0, by omega, rfl, _, _, T2.out, by have := S2.out; rw [HD0.out] at this; exact this, by simp, HOf.out, B2.out⟩
    case round =>
      clear T2 S2 B2 HOf HD0
      obtain ⟨k, hk, rfl, ys, sn, ht, hs, hsn, hRes, hbl⟩ := hrel
      by_cases hlt : k < pages n
      · have hkl : k < ls.length := by rw [HLn.out]; exact hlt
        obtain ⟨lf, hlf⟩ : ∃ lf, ls[k]? = some lf := ⟨ls[k], by simp [hkl]⟩
        have HIl := Lib.hid (HIn.out lf (List.mem_of_getElem? hlf))
        have hdr : ls.drop k = lf :: ls.drop (k + 1) := by
          rw [List.drop_eq_getElem_cons hkl]
          obtain ⟨_, rfl⟩ := List.getElem?_eq_some_iff.1 hlf
          rfl
        rw [hdr] at hRes
        have HRes := Lib.hid hRes
        have hrd := HRd.out.below hbl
        obtain ⟨ad, rfl, hadb, _⟩ := hrd.at (lfls_at HIn.out hlf (j := 0) (v := .int .i64 lf.gen) rfl)
        have hcell : ∀ j v, (lcs lf)[j]? = some v → wr.cell? ((ad.add (k * mr)).add j) = some v := fun j v hv => by
          rw [addr_add_add, HM.out.2.2]
          obtain ⟨ad2, e, _, hc⟩ := hrd.at (lfls_at HIn.out hlf hv)
          obtain rfl : ad = ad2 := by injection e
          exact hc
        have hld := big_load Tryz.prog (ad.add (k * mr)) (lcs lf) mr (by rw [lcs_length HIl.out, HM.out.2.2]) wr hcell
        have HTt := Lib.hid (And.intro ht (And.intro hs hbl))
        have hki : (k : Int) < (pages n : Int) := by omega
        have hws : Hid (w.heap.size ≤ wr.heap.size) := Lib.hid hbl.size
        clear hRes hdr hcell hrd hadb hlf hkl ht hs hbl
        cases hfit : fitsB n lf
        · have HNo := Lib.hid (HRes.out.trans (ofK_no (.inl hfit)))
          go_wp2_with (first
            | ((with_reducible refine wpList_lf_alloc (o := ⟨some 9, .alloc _, _, _, _, _⟩) rfl rfl ?_); intro w3 x3 hB3 hs3; have K3 := Lib.hid hB3; clear hB3 hs3)
            | ((with_reducible refine wpList_lf_store (o := ⟨none, .store 86 _ _, _, _, _, _⟩) rfl _ _ rfl wr.heap.size lf lf0 HIl.out lf0_in rfl rfl x3 ?_); go_loud (intro w4 x4 hg4 hs4; have l4 := big_load0 Tryz.prog wr.heap.size 0 (lcs lf) mr (by rw [lcs_length HIl.out, HM.out.2.2]) _ x4.range0; have K4 := Lib.hid (below_stored K3.out hg4 K3.out.size (Nat.le_refl _)); have T4 := Lib.hid (HTt.out.1.on K4.out); have B4 := Lib.hid (HTt.out.2.2.trans (K4.out.mono hws.out)); clear x3 x4 hg4 hs4 K3 K4 HTt; generalize wr.heap.size = bv at *))
            | fail)
          refine (tfits_any w4 lf HIl.out T4.out).mono ?_
          rw [hfit]
          rintro e w5 ⟨rfl, hb5⟩
          have B5 := Lib.hid (B4.out.trans (hb5.mono (Nat.le_trans B4.out.size (Nat.le_refl _))))
          clear hb5 l4
          go_wp2
          go_ret2
          exact ⟨OfPost.no HNo.out rfl, B5.out⟩
        · obtain ⟨lg, li, lp⟩ := lf
          obtain ⟨q0, q1, q2⟩ := fits_yes hfit
          simp only at q0 q1 q2
          obtain ⟨q, rfl⟩ : ∃ q : Nat, li = q := ⟨li.toNat, by omega⟩
          have hqp : q < pages n := by omega
          have HLp : Hid (lp.length = 10) := Lib.hid HIl.out
          have hyes := ofK_yes (ls := ls.drop (k + 1)) (ys := ys) (sn := sn) hfit
          have hno := ofK_no (ls := ls.drop (k + 1)) (ys := ys) (sn := sn) (n := n) (l := ⟨lg, (q : Int), lp⟩)
          simp only [Int.toNat_natCast] at hyes hno
          have HYes := Lib.hid hyes
          have HNo := Lib.hid hno
          have HHf := Lib.hid hfit
          clear hyes hno q0 q2 hfit
          go_wp2_with (first
            | ((with_reducible refine wpList_lf_alloc (o := ⟨some 9, .alloc _, _, _, _, _⟩) rfl rfl ?_); intro w3 x3 hB3 hs3; have K3 := Lib.hid hB3; clear hB3 hs3)
            | ((with_reducible refine wpList_lf_store (o := ⟨none, .store 86 _ _, _, _, _, _⟩) rfl _ _ rfl wr.heap.size ⟨lg, (q : Int), lp⟩ lf0 HIl.out lf0_in rfl rfl x3 ?_); go_loud (intro w4 x4 hg4 hs4; have l4 := big_load0 Tryz.prog wr.heap.size 0 (lcs ⟨lg, (q : Int), lp⟩) mr (by rw [lcs_length HIl.out, HM.out.2.2]) _ x4.range0; have K4 := Lib.hid (below_stored K3.out hg4 K3.out.size (Nat.le_refl _)); have T4 := Lib.hid (HTt.out.1.on K4.out); have S4 := Lib.hid (HTt.out.2.1.below K4.out HTt.out.2.1.lt); have X4 := Lib.hid x4; have N4 : Hid (s ≠ wr.heap.size) := Lib.hid (Nat.ne_of_lt HTt.out.2.1.lt); have N5 : Hid (wr.heap.size ≠ g) := Lib.hid (fun e => absurd HTt.out.1.lv.lt (by omega)); have B4 := Lib.hid (HTt.out.2.2.trans (K4.out.mono hws.out)); clear x3 x4 hg4 hs4 K3 K4 HTt; generalize wr.heap.size = bv at *))
            | fail)
          have HF := Lib.hid (tfits_any w4 ⟨lg, (q : Int), lp⟩ HIl.out T4.out)
          rw [HHf.out] at HF
          refine HF.out.mono ?_
          rintro e w5 ⟨rfl, hb5⟩
          have B5 := Lib.hid (B4.out.trans (hb5.mono B4.out.size))
          have T5 := Lib.hid (T4.out.on hb5)
          have S5 := Lib.hid (S4.out.below hb5 S4.out.lt)
          have X5 := Lib.hid (X4.out.below hb5 X4.out.lt)
          clear hb5 l4 B4 T4 S4 X4 HF
          obtain ⟨c0, c1⟩ := X5.out.lf
          simp only at c0 c1
          have cs := (S5.out.cell q).trans (bls_get (by rw [hsn]; exact hqp))
          have fs := S5.out.frozen q
          cases hseen : sn.getD q false
          · rw [hseen] at cs
            have HRes2 := Lib.hid (HRes.out.trans (HYes.out hseen))
            have HSn : Hid ((sn.set q true).length = pages n) := Lib.hid (by rw [List.length_set]; exact hsn)
            have hsd : s ≠ d ∧ s ≠ g ∧ s ≠ h := by have := G2.out; omega
            have T6 : Hid (TbIs (w5.setCell ⟨s, q, none⟩ (.bool true)) d g h n ys (List.replicate (pages n) false)) := Lib.hid
              ⟨T5.out.tb.same (Below.heap_setCell _ _ _ _ (fun e => hsd.1 e.symm)), T5.out.lv.same (Below.heap_setCell _ _ _ _ (fun e => hsd.2.1 e.symm)), T5.out.dt.same (Below.heap_setCell _ _ _ _ (fun e => hsd.2.2 e.symm)), T5.out.hn, T5.out.hy, T5.out.hd⟩
            have S6 : Hid (Box (w5.setCell ⟨s, q, none⟩ (.bool true)) s 4 (bls (sn.set q true))) := Lib.hid (by
              have := S5.out.set q (.bool true)
              rwa [← List.map_set] at this)
            have X6 := Lib.hid (X5.out.same (Below.heap_setCell w5 ⟨s, q, none⟩ (.bool true) _ (fun e => N4.out e.symm)))
            have hws : w.heap.size ≤ s := G2.out.2.2.2
            have B6 := Lib.hid (B5.out.setCell (p := ⟨s, q, none⟩) hws (.bool true))
            have Nsg := Lib.hid hsd.2.1
            clear T5 S5 X5 B5 hsd hseen HRes HYes HNo
            go_wp2
            generalize w5.setCell ⟨s, q, none⟩ (.bool true) = w6 at *
            obtain ⟨e1, e2⟩ := T6.out.rows
            obtain ⟨e3, e4⟩ := X6.out.lf
            simp only at e3 e4
            have l6 := big_load0 Tryz.prog bv 2 (is lp) mt (by rw [is_length, HLp.out, HM.out.2.1]) w6.drew X6.out.lfPlaces
            have YL : q * m + 10 ≤ ys.length := by rw [T6.out.hy, HM.out.1]; omega
            have XL : Box w6.drew g 101 (is ys) := T6.out.lv
            have hqi : (q : Int) < (pages n : Int) := by omega
            clear c0 c1 cs fs
            go_still_tail 8, (by kernel_rfl)
            change wpList _ _ _ _ _ w6.drew
            go_wp2_with (first
              | ((with_reducible refine wpList_tl_lay (o := ⟨none, .store _ _ _, _, _, _, _⟩) rfl _ _ rfl g (q * m) lp ys HLp.out YL rfl rfl XL ?_); go_loud (intro w7 x7 hg7 hs7; have T7 := Lib.hid (T6.out.drew.setLv (w := w6.drew) x7 hg7 (lay_length (by rw [HLp.out]; exact YL))); have S7 := Lib.hid (Box.grown (w := w6.drew) S6.out hg7 Nsg.out); have B7 := Lib.hid (below_stored B6.out.drew hg7 (Nat.le_trans hws (Nat.le_of_lt S6.out.lt)) G1.out.2.1); clear x7 hg7 hs7 T6 S6 B6 X6 l6 YL XL e1 e2 e3 e4))
              | fail)
            go_roundw
            case rel => exact ⟨k + 1, by omega, by go_num, _, _, T7.out, S7.out, HSn.out, by rw [HM.out.1]; exact HRes2.out, B7.out⟩
            case measure => simp [intOf]; omega
          · rw [hseen] at cs
            have HNo2 := Lib.hid (HRes.out.trans (HNo.out (.inr hseen)))
            clear hseen
            go_wp2
            go_ret2
            exact ⟨OfPost.no HNo2.out rfl, B5.out⟩
      · obtain rfl : k = pages n := by omega
        rw [List.drop_eq_nil_of_le (by rw [HLn.out]; exact Nat.le_refl _)] at hRes
        have HT := Lib.hid (And.intro ht hbl)
        have HRes : Hid (some ys = Res) := Lib.hid (by rw [hRes]; rfl)
        clear ht hs hsn hRes hbl
        go_wp2
        go_ret2
        exact ⟨OfPost.yes HRes.out rfl HT.out.1 G1.out.1 G1.out.2.1 G1.out.2.2, HT.out.2⟩
  · rw [if_neg hlen] at HOf
    have hq : ((len : Int) != (pages n : Int)) = true := by simpa using (show ¬ ((len : Int) = pages n) by omega)
    go_wp2
    go_ret2
    exact ⟨OfPost.no HOf.out rfl, B1.out⟩
end Go.Proofs.YtgnpohkippegpaaGreat

/-
  'Same' of layer 9's answers: are two lists of numbers one?
-/
namespace Go.Proofs.YtgnpohkippegpaaGreat
open Go.RowKit Leaf
set_option linter.unusedVariables false

theorem isame_any (A A' : Option Addr) (len cap len' cap' : Nat) (w : World) (hl : len ≤ maxLen) (hl' : len' ≤ maxLen) (xs ys : List Int) (hx : xs.length = len) (hy : ys.length = len')
    (B : Nat) (hr : Rd w B A (is xs)) (hr' : Rd w B A' (is ys)) :
    Calls Tryz.prog 16 #[.slice A len cap, .slice A' len' cap'] w fun e w' => e = .returned (.bool (xs == ys)) ∧ ∃ n, w.drewN n = w' := by
  have HX := Lib.hid hx
  have HY := Lib.hid hy
  clear hx hy
  unfold maxLen at hl hl'
  by_cases hne : len = len'
  · subst hne
    go_enter Tryz.func16, Tryz.ntmps16
    go_wp2
    go_loopw [5] (fun i wr => ∃ k : Nat, k ≤ len ∧ i = .int .i64 k ∧ xs.take k = ys.take k ∧ ∃ n, w.drewN n = wr) (fun i _ => len - (intOf i).toNat)
    case atStart => exact ⟨0, by omega, rfl, rfl, 0, rfl⟩
    case round =>
      obtain ⟨k, hk, rfl, HT, q, rfl⟩ := hrel
      have HT := Lib.hid HT
      by_cases hlt : k < len
      · have hx := hr.at (is_get (k := k) (by rw [HX.out]; omega))
        have hy := hr'.at (is_get (k := k) (by rw [HY.out]; omega))
        obtain ⟨ad, rfl, _, hc⟩ := hx
        obtain ⟨ad', rfl, _, hc'⟩ := hy
        have e : xs.take (k + 1) = xs.take k ++ [xs.getD k 0] := by rw [List.take_succ_eq_append_getElem (by rw [HX.out]; omega)]; simp [HX.out, hlt]
        have e' : ys.take (k + 1) = ys.take k ++ [ys.getD k 0] := by rw [List.take_succ_eq_append_getElem (by rw [HY.out]; omega)]; simp [HY.out, hlt]
        generalize xs.getD k 0 = c at hc e
        generalize ys.getD k 0 = c' at hc' e'
        have HE := Lib.hid e
        have HE' := Lib.hid e'
        clear e e' hr hr'
        by_cases hcc : c = c'
        · subst hcc
          have hq : (c != c) = false := by simp
          go_wp2
          go_quiet (fail)
          go_wp2
          go_roundw
          case rel => exact ⟨k + 1, by omega, by go_num, by rw [HE.out, HE'.out, HT.out], _, rfl⟩
          case measure => simp [intOf]; omega
        · have hq : (c != c') = true := by simp [hcc]
          have hxy : (xs == ys) = false := by
            rw [beq_eq_false_iff_ne]
            rintro rfl
            have h := HE.out.symm.trans HE'.out
            simp at h
            exact hcc h
          have HXY := Lib.hid hxy
          clear hxy
          go_wp2
          go_quiet (fail)
          go_wp2
          go_ret
          exact ⟨ret_bool HXY.out, _, (World.drewN_drewN ..).symm⟩
      · obtain rfl : len = k := by omega
        have HXY := Lib.hid (show (xs == ys) = true by
          have h := HT.out
          rw [List.take_of_length_le (by rw [HX.out]; omega), List.take_of_length_le (by rw [HY.out]; omega)] at h
          rw [h, beq_self_eq_true])
        go_wp2
        go_ret
        exact ⟨ret_bool HXY.out, _, rfl⟩
  · have HXY := Lib.hid (show (xs == ys) = false by
      rw [beq_eq_false_iff_ne]
      rintro rfl
      have h1 := HX.out
      have h2 := HY.out
      omega)
    have hq : ((len : Int) != (len' : Int)) = true := by rw [bne_iff_ne]; omega
    go_enter Tryz.func16, Tryz.ntmps16
    go_wp2
    go_ret
    exact ⟨ret_bool HXY.out, 0, rfl⟩
end Go.Proofs.YtgnpohkippegpaaGreat

/-
  'Same', 'SameLeaves' of layer 9's answers: are two lists one?
-/
namespace Go.Proofs.YtgnpohkippegpaaGreat
open Go.RowKit Leaf Tbl
set_option linter.unusedVariables false

theorem lf_cell {w : World} {B : Nat} {ad : Addr} {ls : List Lf} {k : Nat} {l : Lf} (h : Rd w B (some ad) (lfls ls)) (hin : ∀ l ∈ ls, In l) (hk : ls[k]? = some l) : ∀ j v, (lcs l)[j]? = some v → w.cell? ((ad.add (k * 12)).add j) = some v := fun j v hv => by
  rw [addr_add_add]
  obtain ⟨ad2, e, _, hc⟩ := h.at (lfls_at hin hk hv)
  obtain rfl : ad = ad2 := by injection e
  exact hc
theorem lf_some {w : World} {B : Nat} {A : Option Addr} {ls : List Lf} {k : Nat} {l : Lf} (h : Rd w B A (lfls ls)) (hin : ∀ l ∈ ls, In l) (hk : ls[k]? = some l) : ∃ ad, A = some ad ∧ ad.block < B := by
  obtain ⟨ad, e, hb, _⟩ := h.at (lfls_at hin hk (j := 0) (v := .int .i64 l.gen) rfl)
  exact ⟨ad, e, hb⟩
end Go.Proofs.YtgnpohkippegpaaGreat

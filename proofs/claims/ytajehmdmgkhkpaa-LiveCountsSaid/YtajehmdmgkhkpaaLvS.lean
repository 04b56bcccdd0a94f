/-
  Layer 10: the law LiveOfs.
-/
import Derived.Test.YtajehmdmgkhkpaaLvK
namespace Go.Proofs.Ytajehmdmgkhkpaa
open Go.RowKit Geom Lv
set_option linter.unusedVariables false

namespace Lv
theorem ofK_len {seq size : Int} {ps : List Int} : ∀ {k : Nat} {l : List (Int × Int)}, ofK seq size ps k = some l → l.length ≤ k
  | 0, l, h => by
    injection h with h
    subst h
    exact Nat.le_refl _
  | k + 1, l, h => by
    unfold ofK at h
    cases hk : ofK seq size ps k with
    | none => rw [hk] at h; cases h
    | some l1 =>
      rw [hk] at h
      have h1 := ofK_len hk
      simp only at h
      split at h
      · injection h with h
        subst h
        omega
      · split at h
        · injection h with h
          subst h
          have := doM_le (seq := seq) (size := size) (l := l1) (ps.getD k 0) (k : Int) false
          omega
        · cases h
theorem getD_mem {xs : List Int} {k : Nat} (h : k < xs.length) : xs.getD k 0 ∈ xs := by
  rw [List.getD_eq_getElem?_getD, List.getElem?_eq_getElem h]
  exact List.getElem_mem h
end Lv
/-- Of, as the laws call it -/
theorem lvof_none {conv soft seq size opn : Int} {w : World} {n : Nat} {e : Ending} {w' : World} (h : LvOf w conv soft seq size opn n none e w') : e = .returned (.tuple #[.pointer none, .bool false]) := h
theorem lvof_some {conv soft seq size opn : Int} {w : World} {n : Nat} {e : Ending} {w' : World} {l : List (Int × Int)} (h : LvOf w conv soft seq size opn n (some l) e w') :
    ∃ d b c, e = .returned (.tuple #[lvp d, .bool true]) ∧ LvIs w' d b c n conv soft seq size opn l ∧ w.heap.size ≤ d ∧ w.heap.size ≤ b ∧ w.heap.size ≤ c := h
set_option maxRecDepth 100000 in
set_option maxHeartbeats 4000000 in
theorem lvlaw_ofs (conv soft seq size opn : Int) (A : Option Addr) (len cap : Nat) (ps : List Int) (w : World) (hts : ps.length = len) (h64 : ∀ t ∈ ps, W64 t) (hr : Rd w w.heap.size A (is ps)) :
    Calls Try.prog 4 #[.agg #[.int .i64 conv, .int .i64 soft, .int .i64 seq, .int .i64 size, .int .i64 opn], .slice A len cap] w fun e w' => e = .returned (.bool true) ∧ Below w.heap.size w w' := by
  have H64 := Lib.hid h64
  clear h64
  have hbox := Lies.new w conv soft seq size opn 23 (0, 0)
  have hb0 : Below w.heap.size w (w.alloc (.cells #[.int .i64 conv, .int .i64 soft, .int .i64 seq, .int .i64 size, .int .i64 opn] 23)) := below_alloc1 (Below.refl _ _)
  have hsz0 : (w.alloc (.cells #[.int .i64 conv, .int .i64 soft, .int .i64 seq, .int .i64 size, .int .i64 opn] 23)).heap.size = w.heap.size + 1 := by simp
  have hr0 := (hr.below hb0).more hb0.size
  have HTs := Lib.hid hts
  clear hr hts
  go_enter Try.func4, Try.ntmps4
  go_wp2_with fail
  generalize World.alloc _ _ = w0 at hbox hb0 hsz0 hr0 ⊢
  have SO := Lib.hid fun w' (h : Below w0.heap.size w0 w') => (⟨(hbox.below h).1, (hbox.below h).2.1, (hbox.below h).2.2.1, (hbox.below h).2.2.2.1, (hbox.below h).2.2.2.2.1⟩ :
    w'.cell? ⟨w.heap.size, 0, none⟩ = some (.int .i64 conv) ∧ w'.cell? ⟨w.heap.size, 1, none⟩ = some (.int .i64 soft) ∧ w'.cell? ⟨w.heap.size, 2, none⟩ = some (.int .i64 seq) ∧ w'.cell? ⟨w.heap.size, 3, none⟩ = some (.int .i64 size) ∧ w'.cell? ⟨w.heap.size, 4, none⟩ = some (.int .i64 opn))
  have H0 := Lib.hid (And.intro hb0 (And.intro hsz0 hr0))
  clear hbox hb0 hsz0 hr0
  refine (awake10_any w0).mono ?_
  rintro e w1 ⟨rfl, hb1⟩
  have B1 := Lib.hid hb1
  obtain ⟨c0, c1, c2, c3, c4⟩ := SO.out _ hb1
  clear hb1
  have HLi := Lib.hid (little_any conv soft seq size opn w1)
  cases hlit : litB conv soft seq size opn
  · rw [hlit] at HLi
    go_wp2_with fail
    refine HLi.out.mono ?_
    rintro e w2 ⟨rfl, hb2⟩
    have B2 := Lib.hid (bthen B1.out hb2)
    clear c0 c1 c2 c3 c4 hb2
    go_wp2_with fail
    refine (awake10_any w2).mono ?_
    rintro e w3 ⟨rfl, hb9⟩
    have B9 := Lib.hid (bthen B2.out hb9)
    clear hb9
    go_wp2
    go_ret
    exact ⟨rfl, H0.out.1.trans (B9.out.mono H0.out.1.size)⟩
  rw [hlit] at HLi
  have HY := Lib.hid (lit_yes hlit)
  clear hlit
  go_wp2_with fail
  refine HLi.out.mono ?_
  rintro e w2 ⟨rfl, hb2⟩
  have B2 := Lib.hid (bthen B1.out hb2)
  clear c0 c1 c2 c3 c4 hb2 B1 HLi
  by_cases h60 : 60 < len
  · go_wp2_with fail
    refine (awake10_any w2).mono ?_
    rintro e w3 ⟨rfl, hb9⟩
    have B9 := Lib.hid (bthen B2.out hb9)
    clear hb9
    go_wp2
    go_ret
    exact ⟨rfl, H0.out.1.trans (B9.out.mono H0.out.1.size)⟩
  have hlen : len ≤ 60 := by omega
  have hleI : (len : Int) ≤ 60 := by omega
  have HLen := Lib.hid hlen
  clear h60
  obtain ⟨c0, c1, c2, c3, c4⟩ := SO.out _ B2.out
  have hO := lvof_any conv soft seq size opn w2 HY.out.1 A cap ps (by rw [HTs.out]; omega) ((H0.out.2.2.below B2.out).more B2.out.size)
  rw [HTs.out] at hO
  cases hof : ofK seq size ps len with
  | none =>
    rw [hof] at hO
    have HO := Lib.hid hO
    have HOF := Lib.hid hof
    clear hO hof
    go_wp2_with fail
    refine HO.out.mono ?_
    rintro e w3 ⟨hq, hb3⟩
    obtain rfl := lvof_none hq
    have B3 := Lib.hid (B2.out.trans (hb3.mono B2.out.size))
    clear hq hb3 HO B2 c0 c1 c2 c3 c4
    go_wp2
    go_loopw [7, 8, 9] (fun V fv i wr => ∃ (k : Nat) (fine : Bool), k ≤ len ∧ i = .int .i64 k ∧ fv = .bool fine ∧ Below w0.heap.size w0 wr ∧ (fine = true → ∃ l, ofK seq size ps k = some l ∧ ClIs wr V l) ∧ (fine = false → ofK seq size ps k = none)) (fun _ _ i _ => len - (intOf i).toNat)
    case atStart => exact ⟨0, true, Nat.zero_le _, rfl, rfl, B3.out, fun _ => ⟨[], rfl, ClIs.nil _⟩, fun h => by cases h⟩
    case round =>
      clear B3
      obtain ⟨k, fine, hk, rfl, rfl, hmem, hT, hF⟩ := hrel
      have HM := Lib.hid hmem
      have HT := Lib.hid hT
      have HF := Lib.hid hF
      clear hmem hT hF
      by_cases hlt : k < len
      · have hki : (k : Int) < (len : Int) := by omega
        cases fine
        · go_wp2
          go_ret
          exact ⟨rfl, H0.out.1.trans (HM.out.mono H0.out.1.size)⟩
        · obtain ⟨l, hof, hcl⟩ := HT.out rfl
          have hll : l.length ≤ k := ofK_len hof
          have HOk := Lib.hid hof
          have HCl := Lib.hid hcl
          have HLL := Lib.hid hll
          clear hof hcl hll HT HF
          obtain ⟨ad, rfl, _, ck⟩ := (H0.out.2.2.below HM.out).at (is_get (zs := ps) (k := k) (by rw [HTs.out]; exact hlt))
          have HCk := Lib.hid fun w' (h : Below w0.heap.size w0 w') => (by
            obtain ⟨ad2, e2, _, h2⟩ := (H0.out.2.2.below h).at (is_get (zs := ps) (k := k) (by rw [HTs.out]; exact hlt))
            obtain rfl : ad = ad2 := by injection e2
            exact h2 : w'.cell? (ad.add k) = some (.int .i64 (ps.getD k 0)))
          have HX64 := Lib.hid (H64.out (ps.getD k 0) (getD_mem (by rw [HTs.out]; exact hlt)))
          by_cases h0 : ps.getD k 0 = 0
          · have HN := Lib.hid (ofK_skip HOk.out h0)
            rw [h0] at ck
            clear h0
            go_wp2
            go_roundw
            case rel => exact ⟨k + 1, true, by omega, by go_num, rfl, HM.out, fun _ => ⟨l, HN.out, HCl.out⟩, fun h => by cases h⟩
            case measure => first | (simp [intOf]; done) | (simp [intOf]; omega)
          · have HNa := Lib.hid fun h1 => ofK_add HOk.out h0 h1
            have HNb := Lib.hid fun h1 => ofK_bad HOk.out h0 h1
            have h0b : (ps.getD k 0 != 0) = true := by simpa using h0
            clear h0
            generalize ps.getD k 0 = x at *
            have HDo := Lib.hid fun w' (hb : Below wr.heap.size wr w') => rdo_any conv soft seq size opn w' HY.out.2.1 u7 l (by have := HLL.out; have := HLen.out; omega) (HCl.out.on hb) x (k : Int) HX64.out false
            have SK := Lib.hid fun w' (h : Below wr.heap.size wr w') => (⟨SO.out _ (HM.out.trans (h.mono HM.out.size)), HCk.out _ (HM.out.trans (h.mono HM.out.size))⟩ : ((w'.cell? ⟨w.heap.size, 0, none⟩ = some (.int .i64 conv) ∧ w'.cell? ⟨w.heap.size, 1, none⟩ = some (.int .i64 soft) ∧ w'.cell? ⟨w.heap.size, 2, none⟩ = some (.int .i64 seq) ∧ w'.cell? ⟨w.heap.size, 3, none⟩ = some (.int .i64 size) ∧ w'.cell? ⟨w.heap.size, 4, none⟩ = some (.int .i64 opn)) ∧ w'.cell? (ad.add k) = some (.int .i64 x)))
            go_wp2_with fail
            go_region_held3 (fun w' => (w'.cell? ⟨w.heap.size, 0, none⟩ = some (.int .i64 conv) ∧ w'.cell? ⟨w.heap.size, 1, none⟩ = some (.int .i64 soft) ∧ w'.cell? ⟨w.heap.size, 2, none⟩ = some (.int .i64 seq) ∧ w'.cell? ⟨w.heap.size, 3, none⟩ = some (.int .i64 size) ∧ w'.cell? ⟨w.heap.size, 4, none⟩ = some (.int .i64 opn)) ∧ w'.cell? (ad.add k) = some (.int .i64 x))
              ((refine SK.out _ ?_; first | exact Below.refl _ _ | exact (Below.refl _ _).drew | exact B5 | exact B5.drew))
              (((with_reducible refine (HDo.out _ (Below.refl _ _).drew).mono ?_); rintro e w5 ⟨V5, rfl, hv5, hb5⟩; have B5 : Below wr.heap.size wr w5 := (Below.refl wr.heap.size wr).drew.trans hb5))
            all_goals
              have HV5 := Lib.hid hv5
              have M5 := Lib.hid (HM.out.trans ((B5).mono HM.out.size))
              clear hv5 hb5 B5 ck h0b
              generalize hgg : doM seq size l x (k : Int) false = gg at *
              clear hgg
              obtain ⟨g1, g2⟩ := gg
              simp only at HNa HNb HV5
              go_wp2
              go_roundw
              case rel => exact ⟨k + 1, g2, by omega, by go_num, rfl, M5.out, fun h => ⟨g1, HNa.out h, HV5.out⟩, HNb.out⟩
              case measure => first | (simp [intOf]; done) | (simp [intOf]; omega)
      · obtain rfl : len = k := by omega
        cases fine
        · go_wp2
          go_ret
          exact ⟨rfl, H0.out.1.trans (HM.out.mono H0.out.1.size)⟩
        · obtain ⟨l, hof2, hcl⟩ := HT.out rfl
          exact absurd (HOF.out.symm.trans hof2) (by simp)
  | some l0 =>
    rw [hof] at hO
    have HO := Lib.hid hO
    have HOF := Lib.hid hof
    clear hO hof
    go_wp2_with fail
    refine HO.out.mono ?_
    rintro e w3 ⟨hq, hb3⟩
    obtain ⟨d, b, c, rfl, t3, hd3, hbb3, hc3⟩ := lvof_some hq
    have L3 : Hid (LSv w0 w3 d b c len conv soft seq size opn l0) := Lib.hid ⟨B2.out.trans (hb3.mono B2.out.size), t3, by have := B2.out.size; omega, by have := B2.out.size; omega⟩
    clear hq hb3 t3 hd3 hbb3 hc3 HO B2 c0 c1 c2 c3 c4
    go_wp2
    go_loopw [7, 8, 9] (fun V fv i wr => ∃ (k : Nat) (fine : Bool), k ≤ len ∧ i = .int .i64 k ∧ fv = .bool fine ∧ LSv w0 wr d b c len conv soft seq size opn l0 ∧ (fine = true → ∃ l, ofK seq size ps k = some l ∧ ClIs wr V l) ∧ (fine = false → ofK seq size ps k = none)) (fun _ _ i _ => len - (intOf i).toNat)
    case atStart => exact ⟨0, true, Nat.zero_le _, rfl, rfl, L3.out, fun _ => ⟨[], rfl, ClIs.nil _⟩, fun h => by cases h⟩
    case round =>
      clear L3
      obtain ⟨k, fine, hk, rfl, rfl, hmem, hT, hF⟩ := hrel
      have HM := Lib.hid hmem
      have HT := Lib.hid hT
      have HF := Lib.hid hF
      clear hmem hT hF
      by_cases hlt : k < len
      · have hki : (k : Int) < (len : Int) := by omega
        cases fine
        · exact absurd (HOF.out.symm.trans (ofK_over (HF.out rfl) hk)) (by simp)
        · obtain ⟨l, hof, hcl⟩ := HT.out rfl
          have hll : l.length ≤ k := ofK_len hof
          have HOk := Lib.hid hof
          have HCl := Lib.hid hcl
          have HLL := Lib.hid hll
          clear hof hcl hll HT HF
          obtain ⟨ad, rfl, _, ck⟩ := (H0.out.2.2.below HM.out.1).at (is_get (zs := ps) (k := k) (by rw [HTs.out]; exact hlt))
          have HCk := Lib.hid fun w' (h : Below w0.heap.size w0 w') => (by
            obtain ⟨ad2, e2, _, h2⟩ := (H0.out.2.2.below h).at (is_get (zs := ps) (k := k) (by rw [HTs.out]; exact hlt))
            obtain rfl : ad = ad2 := by injection e2
            exact h2 : w'.cell? (ad.add k) = some (.int .i64 (ps.getD k 0)))
          have HX64 := Lib.hid (H64.out (ps.getD k 0) (getD_mem (by rw [HTs.out]; exact hlt)))
          by_cases h0 : ps.getD k 0 = 0
          · have HN := Lib.hid (ofK_skip HOk.out h0)
            rw [h0] at ck
            clear h0
            go_wp2
            go_roundw
            case rel => exact ⟨k + 1, true, by omega, by go_num, rfl, HM.out, fun _ => ⟨l, HN.out, HCl.out⟩, fun h => by cases h⟩
            case measure => first | (simp [intOf]; done) | (simp [intOf]; omega)
          · have HNa := Lib.hid fun h1 => ofK_add HOk.out h0 h1
            have HNb := Lib.hid fun h1 => ofK_bad HOk.out h0 h1
            have h0b : (ps.getD k 0 != 0) = true := by simpa using h0
            clear h0
            generalize ps.getD k 0 = x at *
            have HDo := Lib.hid fun w' (hb : Below wr.heap.size wr w') => rdo_any conv soft seq size opn w' HY.out.2.1 u7 l (by have := HLL.out; have := HLen.out; omega) (HCl.out.on hb) x (k : Int) HX64.out false
            have SK := Lib.hid fun w' (h : Below wr.heap.size wr w') => (⟨SO.out _ (HM.out.1.trans (h.mono HM.out.1.size)), HCk.out _ (HM.out.1.trans (h.mono HM.out.1.size))⟩ : ((w'.cell? ⟨w.heap.size, 0, none⟩ = some (.int .i64 conv) ∧ w'.cell? ⟨w.heap.size, 1, none⟩ = some (.int .i64 soft) ∧ w'.cell? ⟨w.heap.size, 2, none⟩ = some (.int .i64 seq) ∧ w'.cell? ⟨w.heap.size, 3, none⟩ = some (.int .i64 size) ∧ w'.cell? ⟨w.heap.size, 4, none⟩ = some (.int .i64 opn)) ∧ w'.cell? (ad.add k) = some (.int .i64 x)))
            go_wp2_with fail
            go_region_held3 (fun w' => (w'.cell? ⟨w.heap.size, 0, none⟩ = some (.int .i64 conv) ∧ w'.cell? ⟨w.heap.size, 1, none⟩ = some (.int .i64 soft) ∧ w'.cell? ⟨w.heap.size, 2, none⟩ = some (.int .i64 seq) ∧ w'.cell? ⟨w.heap.size, 3, none⟩ = some (.int .i64 size) ∧ w'.cell? ⟨w.heap.size, 4, none⟩ = some (.int .i64 opn)) ∧ w'.cell? (ad.add k) = some (.int .i64 x))
              ((refine SK.out _ ?_; first | exact Below.refl _ _ | exact (Below.refl _ _).drew | exact B5 | exact B5.drew))
              (((with_reducible refine (HDo.out _ (Below.refl _ _).drew).mono ?_); rintro e w5 ⟨V5, rfl, hv5, hb5⟩; have B5 : Below wr.heap.size wr w5 := (Below.refl wr.heap.size wr).drew.trans hb5))
            all_goals
              have HV5 := Lib.hid hv5
              have M5 := Lib.hid (HM.out.on (B5))
              clear hv5 hb5 B5 ck h0b
              generalize hgg : doM seq size l x (k : Int) false = gg at *
              clear hgg
              obtain ⟨g1, g2⟩ := gg
              simp only at HNa HNb HV5
              go_wp2
              go_roundw
              case rel => exact ⟨k + 1, g2, by omega, by go_num, rfl, M5.out, fun h => ⟨g1, HNa.out h, HV5.out⟩, HNb.out⟩
              case measure => first | (simp [intOf]; done) | (simp [intOf]; omega)
      · obtain rfl : len = k := by omega
        cases fine
        · exact absurd (HOF.out.symm.trans (ofK_over (HF.out rfl) hk)) (by simp)
        · obtain ⟨l, hof2, hcl⟩ := HT.out rfl
          obtain rfl : l0 = l := by
            have := HOF.out.symm.trans hof2
            injection this
          obtain ⟨c0, c1, c2, c3, c4⟩ := SO.out _ HM.out.1
          have HSh := Lib.hid (shows_any conv soft seq size opn wr HY.out.2.2.1 u7 l0 (by have := HM.out.2.1.hl; have := HLen.out; omega) hcl (wl_w64 HM.out.2.1.ok HM.out.2.1.wl) HM.out.2.1)
          clear hcl hof2
          go_wp2_with fail
          refine HSh.out.mono ?_
          rintro e w9 ⟨rfl, hb9⟩
          have B9 := Lib.hid (HM.out.1.trans (hb9.mono HM.out.1.size))
          clear hb9
          go_wp2
          go_ret
          exact ⟨rfl, H0.out.1.trans (B9.out.mono H0.out.1.size)⟩
end Go.Proofs.Ytajehmdmgkhkpaa

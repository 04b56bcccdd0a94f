/-
  Layer 10: the law LiveBlocks.
-/
import Derived.Test.YtajehmdmgkhkpaaLvQ
namespace Go.Proofs.Ytajehmdmgkhkpaa
open Go.RowKit Geom Lv
set_option linter.unusedVariables false

namespace Lv
/-- place is told among the first k -/
def TP (seq size : Int) (ps : List Int) (place : Int) (k : Nat) : Prop := ∃ j, j < k ∧ (1 ≤ ps.getD j 0 ∧ ps.getD j 0 ≤ seq * size) ∧ ps.getD j 0 = place
end Lv
set_option maxRecDepth 100000 in
set_option maxHeartbeats 4000000 in
theorem lvlaw_blocks (conv soft seq size opn : Int) (A : Option Addr) (len cap : Nat) (ps : List Int) (place : Int) (w : World) (hts : ps.length = len) (h64 : ∀ t ∈ ps, W64 t) (hp64 : W64 place) (hr : Rd w w.heap.size A (is ps)) :
    Calls Try.prog 8 #[.agg #[.int .i64 conv, .int .i64 soft, .int .i64 seq, .int .i64 size, .int .i64 opn], .slice A len cap, .int .i64 place] w fun e w' => e = .returned (.bool true) ∧ Below w.heap.size w w' := by
  have HP64 := Lib.hid hp64
  have H64 := Lib.hid h64
  clear hp64 h64
  have hbox := Lies.new w conv soft seq size opn 23 (0, 0)
  have hb0 : Below w.heap.size w (w.alloc (.cells #[.int .i64 conv, .int .i64 soft, .int .i64 seq, .int .i64 size, .int .i64 opn] 23)) := below_alloc1 (Below.refl _ _)
  have hsz0 : (w.alloc (.cells #[.int .i64 conv, .int .i64 soft, .int .i64 seq, .int .i64 size, .int .i64 opn] 23)).heap.size = w.heap.size + 1 := by simp
  have hr0 := (hr.below hb0).more hb0.size
  have HTs := Lib.hid hts
  clear hr hts
  go_enter Try.func8, Try.ntmps8
  go_wp2_with fail
  generalize World.alloc _ _ = w0 at hbox hb0 hsz0 hr0 ⊢
  have SO := Lib.hid fun w' (h : Below w0.heap.size w0 w') => (⟨(hbox.below h).1, (hbox.below h).2.1, (hbox.below h).2.2.1, (hbox.below h).2.2.2.1, (hbox.below h).2.2.2.2.1⟩ :
    w'.cell? ⟨w.heap.size, 0, none⟩ = some (.int .i64 conv) ∧ w'.cell? ⟨w.heap.size, 1, none⟩ = some (.int .i64 soft) ∧ w'.cell? ⟨w.heap.size, 2, none⟩ = some (.int .i64 seq) ∧ w'.cell? ⟨w.heap.size, 3, none⟩ = some (.int .i64 size) ∧ w'.cell? ⟨w.heap.size, 4, none⟩ = some (.int .i64 opn))
  have H0 := Lib.hid (And.intro hb0 (And.intro hsz0 hr0))
  clear hbox hb0 hsz0 hr0
  refine (awake10_any w0).mono ?_
  rintro e w1 ⟨rfl, hb1⟩
  have B1 := Lib.hid hb1
  obtain ⟨c0, c1, c2, c3, c4⟩ := SO.out _ hb1
  clear hb1
  have HLi := Lib.hid (little_any conv soft seq size opn w1)
  cases hlit : litB conv soft seq size opn
  · rw [hlit] at HLi
    go_wp2_with fail
    refine HLi.out.mono ?_
    rintro e w2 ⟨rfl, hb2⟩
    have B2 := Lib.hid (bthen B1.out hb2)
    clear c0 c1 c2 c3 c4 hb2
    go_wp2_with fail
    refine (awake10_any w2).mono ?_
    rintro e w3 ⟨rfl, hb9⟩
    have B9 := Lib.hid (bthen B2.out hb9)
    clear hb9
    go_wp2
    go_ret
    exact ⟨rfl, H0.out.1.trans (B9.out.mono H0.out.1.size)⟩
  rw [hlit] at HLi
  have HY := Lib.hid (lit_yes hlit)
  clear hlit
  go_wp2_with fail
  refine HLi.out.mono ?_
  rintro e w2 ⟨rfl, hb2⟩
  have B2 := Lib.hid (bthen B1.out hb2)
  clear c0 c1 c2 c3 c4 hb2 B1 HLi
  by_cases h60 : 60 < len
  · go_wp2_with fail
    refine (awake10_any w2).mono ?_
    rintro e w3 ⟨rfl, hb9⟩
    have B9 := Lib.hid (bthen B2.out hb9)
    clear hb9
    go_wp2
    go_ret
    exact ⟨rfl, H0.out.1.trans (B9.out.mono H0.out.1.size)⟩
  have hlen : len ≤ 60 := by omega
  have hleI : (len : Int) ≤ 60 := by omega
  have HLen := Lib.hid hlen
  clear h60
  obtain ⟨c0, c1, c2, c3, c4⟩ := SO.out _ B2.out
  have hO := lvof_any conv soft seq size opn w2 HY.out.1 A cap ps (by rw [HTs.out]; omega) ((H0.out.2.2.below B2.out).more B2.out.size)
  rw [HTs.out] at hO
  cases hof : ofK seq size ps len with
  | none =>
    rw [hof] at hO
    have HO := Lib.hid hO
    clear hO hof
    go_wp2_with fail
    refine HO.out.mono ?_
    rintro e w3 ⟨hq, hb3⟩
    obtain rfl := lvof_none hq
    have B3 := Lib.hid (B2.out.trans (hb3.mono B2.out.size))
    clear hq hb3 HO B2 c0 c1 c2 c3 c4
    go_wp2
    go_ret
    exact ⟨rfl, H0.out.1.trans (B3.out.mono H0.out.1.size)⟩
  | some l0 =>
    rw [hof] at hO
    have HO := Lib.hid hO
    have HOF := Lib.hid hof
    clear hO hof
    go_wp2_with fail
    refine HO.out.mono ?_
    rintro e w3 ⟨hq, hb3⟩
    obtain ⟨d, b, c, rfl, t3, hd3, hbb3, hc3⟩ := lvof_some hq
    have L3 : Hid (LSv w0 w3 d b c len conv soft seq size opn l0) := Lib.hid ⟨B2.out.trans (hb3.mono B2.out.size), t3, by have := B2.out.size; omega, by have := B2.out.size; omega⟩
    clear hq hb3 t3 hd3 hbb3 hc3 HO B2 c0 c1 c2 c3 c4
    have TO := Lib.hid (ofK_told HOF.out)
    go_wp2
    go_loopw [9, 10] (fun tv i wr => ∃ (k : Nat) (told : Bool), k ≤ len ∧ tv = .bool told ∧ i = .int .i64 k ∧ (told = true ↔ TP seq size ps place k) ∧ Below w3.heap.size w3 wr) (fun _ i _ => len - (intOf i).toNat)
    case atStart => exact ⟨0, false, Nat.zero_le _, rfl, rfl, ⟨fun h => (by cases h), fun ⟨j, h, _⟩ => absurd h (Nat.not_lt_zero _)⟩, Below.refl _ _⟩
    case round =>
      obtain ⟨k, told, hk, rfl, rfl, hto, hm⟩ := hrel
      have HM := Lib.hid hm
      have HTo := Lib.hid hto
      clear hm hto
      by_cases hlt : k < len
      · have hki : (k : Int) < (len : Int) := by omega
        obtain ⟨ad, rfl, _, ck⟩ := (H0.out.2.2.below (L3.out.on HM.out).1).at (is_get (zs := ps) (k := k) (by rw [HTs.out]; exact hlt))
        have HCk := Lib.hid fun w' (h : Below w3.heap.size w3 w') => (by
          obtain ⟨ad2, e2, _, h2⟩ := (H0.out.2.2.below (L3.out.on h).1).at (is_get (zs := ps) (k := k) (by rw [HTs.out]; exact hlt))
          obtain rfl : ad = ad2 := by injection e2
          exact h2 : w'.cell? (ad.add k) = some (.int .i64 (ps.getD k 0)))
        have HAt := fun w' => rat_any conv soft seq size opn (ps.getD k 0) w' HY.out.2.1 (wf_i64 (H64.out (ps.getD k 0) (getD_mem (by rw [HTs.out]; exact hlt))))
        rw [show zoneOf conv seq size (ps.getD k 0) = (plN conv seq size (ps.getD k 0)).1 from rfl, show offOf seq size (ps.getD k 0) = (plN conv seq size (ps.getD k 0)).2 from rfl] at HAt
        by_cases hin : 1 ≤ ps.getD k 0 ∧ ps.getD k 0 ≤ seq * size
        · have hlk := TO.out.1 k hlt hin
          have hpv : pv conv seq size l0 (plN conv seq size (ps.getD k 0)) = some (k : Int) := by rw [pv_num (by obtain ⟨q1, q2, q3, q4, q5⟩ := HY.out.2.1; omega) hin, hlk]
          have hp64 := plN_w64 (n := ps.getD k 0) HY.out.2.1
          have HBk := Lib.hid fun w' (h : Below w3.heap.size w3 w') => lvblock_any w' (plN conv seq size (ps.getD k 0)) hp64.1 hp64.2 (L3.out.2.1.on h)
          rw [hpv] at HBk
          rw [isB_iff.2 hin] at HAt
          have HAt := Lib.hid HAt
          have HIn := Lib.hid hin
          clear hlk hpv hp64 hin
          generalize plN conv seq size (ps.getD k 0) = pl at *
          obtain ⟨pz, po⟩ := pl
          generalize hgx : ps.getD k 0 = x at *
          have HGx := Lib.hid hgx
          clear hgx
          have SK := Lib.hid fun w' (h : Below w3.heap.size w3 w') => (⟨SO.out _ (L3.out.on h).1, HCk.out _ h⟩ : ((w'.cell? ⟨w.heap.size, 0, none⟩ = some (.int .i64 conv) ∧ w'.cell? ⟨w.heap.size, 1, none⟩ = some (.int .i64 soft) ∧ w'.cell? ⟨w.heap.size, 2, none⟩ = some (.int .i64 seq) ∧ w'.cell? ⟨w.heap.size, 3, none⟩ = some (.int .i64 size) ∧ w'.cell? ⟨w.heap.size, 4, none⟩ = some (.int .i64 opn)) ∧ w'.cell? (ad.add k) = some (.int .i64 x)))
          go_wp2_with fail
          apply wp_meetB (fun w' b5 => Below w3.heap.size w3 w' ∧ w'.cell? ⟨b5, 0, none⟩ = some (.int .i64 pz) ∧ w'.cell? ⟨b5, 1, none⟩ = some (.int .i64 po))
          · go_region_held3 (fun w' => (w'.cell? ⟨w.heap.size, 0, none⟩ = some (.int .i64 conv) ∧ w'.cell? ⟨w.heap.size, 1, none⟩ = some (.int .i64 soft) ∧ w'.cell? ⟨w.heap.size, 2, none⟩ = some (.int .i64 seq) ∧ w'.cell? ⟨w.heap.size, 3, none⟩ = some (.int .i64 size) ∧ w'.cell? ⟨w.heap.size, 4, none⟩ = some (.int .i64 opn)) ∧ w'.cell? (ad.add k) = some (.int .i64 x))
              ((refine SK.out _ ?_; repeat (first | exact B5 | exact HM.out | refine Below.drew ?_ | refine Below.alloc ?_ (by first | exact HM.out.size | exact B5.size | (have := HM.out.size; simp; omega) | (have := B5.size; simp; omega)) _ | refine Below.setCell ?_ (by first | exact HM.out.size | (have := HM.out.size; simp; omega)) _)))
              (((with_reducible refine (HAt.out _).mono ?_); rintro e w5 ⟨rfl, hb5⟩; obtain ⟨hcl, hfz⟩ := bcell hb5; have B5 : Below w3.heap.size w3 w5 := (by
                have hb6 := hb5
                revert hb6
                first
                  | exact fun hb6 => HM.out.drew.trans (hb6.mono HM.out.size)
                  | exact fun hb6 => (HM.out.alloc HM.out.size _).drew.trans (hb6.mono (HM.out.alloc HM.out.size _).size))))
            · have F := at_a B5 pz po
              generalize w5.alloc (.cells #[.int .i64 pz, .int .i64 po] 50) = w6 at F ⊢
              generalize w5.heap.size = b6 at F ⊢
              exact ⟨b6, F, rfl⟩
            · have F := at_b HM.out B5 hb5 pz po
              generalize (w5.setCell ⟨wr.heap.size, 0, none⟩ (.int .i64 pz)).setCell ⟨wr.heap.size, 1, none⟩ (.int .i64 po) = w6 at F ⊢
              generalize wr.heap.size = b6 at F ⊢
              exact ⟨b6, F, rfl⟩
          rintro w6 b6 ⟨hb6, a60, a61⟩
          have B6 := Lib.hid hb6
          clear hb6
          go_wp2_with fail
          refine (HBk.out _ B6.out).mono ?_
          rintro e w7 ⟨rfl, hb7⟩
          have B7 := Lib.hid (B6.out.trans (hb7.mono B6.out.size))
          have ck7 := HCk.out _ B7.out
          have hq : ((k : Int) != (k : Int)) = false := by simp
          clear hb7 a60 a61 ck
          cases told
          · by_cases he : x = place
            · have heb : (x == place) = true := by simpa using he
              have HN := Lib.hid (show TP seq size ps place (k + 1) from ⟨k, Nat.lt_succ_self _, by rw [HGx.out]; exact HIn.out, by rw [HGx.out]; exact he⟩)
              clear he
              go_wp2
              go_roundw
              case rel => exact ⟨k + 1, true, by omega, rfl, by go_num, ⟨fun _ => HN.out, fun _ => rfl⟩, B7.out⟩
              case measure => first | (simp [intOf]; done) | (simp [intOf]; omega)
            · have heb : (x == place) = false := by simpa using he
              have HN := Lib.hid (show (false = true ↔ TP seq size ps place (k + 1)) from ⟨fun h => (by cases h), fun ⟨j, h1, h2, h3⟩ => by
                rcases Nat.lt_or_ge j k with h4 | h4
                · exact HTo.out.2 ⟨j, h4, h2, h3⟩
                · obtain rfl : j = k := by omega
                  rw [HGx.out] at h3
                  exact absurd h3 he⟩)
              clear he
              go_wp2
              go_roundw
              case rel => exact ⟨k + 1, false, by omega, rfl, by go_num, HN.out, B7.out⟩
              case measure => first | (simp [intOf]; done) | (simp [intOf]; omega)
          · have HN := Lib.hid (show TP seq size ps place (k + 1) from by
              obtain ⟨j, h1, h2, h3⟩ := HTo.out.1 rfl
              exact ⟨j, by omega, h2, h3⟩)
            go_wp2
            go_roundw
            case rel => exact ⟨k + 1, true, by omega, rfl, by go_num, ⟨fun _ => HN.out, fun _ => rfl⟩, B7.out⟩
            case measure => first | (simp [intOf]; done) | (simp [intOf]; omega)
        · have hib : isB seq size (ps.getD k 0) = false := by
            cases h : isB seq size (ps.getD k 0)
            · rfl
            · exact absurd (isB_iff.1 h) hin
          rw [hib] at HAt
          have HAt := Lib.hid HAt
          have HIn := Lib.hid hin
          clear hib hin
          generalize plN conv seq size (ps.getD k 0) = pl at *
          obtain ⟨pz, po⟩ := pl
          generalize hgx : ps.getD k 0 = x at *
          have HGx := Lib.hid hgx
          clear hgx
          have SK := Lib.hid fun w' (h : Below w3.heap.size w3 w') => (⟨SO.out _ (L3.out.on h).1, HCk.out _ h⟩ : ((w'.cell? ⟨w.heap.size, 0, none⟩ = some (.int .i64 conv) ∧ w'.cell? ⟨w.heap.size, 1, none⟩ = some (.int .i64 soft) ∧ w'.cell? ⟨w.heap.size, 2, none⟩ = some (.int .i64 seq) ∧ w'.cell? ⟨w.heap.size, 3, none⟩ = some (.int .i64 size) ∧ w'.cell? ⟨w.heap.size, 4, none⟩ = some (.int .i64 opn)) ∧ w'.cell? (ad.add k) = some (.int .i64 x)))
          go_wp2_with fail
          apply wp_meetB (fun w' b5 => Below w3.heap.size w3 w' ∧ w'.cell? ⟨b5, 0, none⟩ = some (.int .i64 pz) ∧ w'.cell? ⟨b5, 1, none⟩ = some (.int .i64 po))
          · go_region_held3 (fun w' => (w'.cell? ⟨w.heap.size, 0, none⟩ = some (.int .i64 conv) ∧ w'.cell? ⟨w.heap.size, 1, none⟩ = some (.int .i64 soft) ∧ w'.cell? ⟨w.heap.size, 2, none⟩ = some (.int .i64 seq) ∧ w'.cell? ⟨w.heap.size, 3, none⟩ = some (.int .i64 size) ∧ w'.cell? ⟨w.heap.size, 4, none⟩ = some (.int .i64 opn)) ∧ w'.cell? (ad.add k) = some (.int .i64 x))
              ((refine SK.out _ ?_; repeat (first | exact B5 | exact HM.out | refine Below.drew ?_ | refine Below.alloc ?_ (by first | exact HM.out.size | exact B5.size | (have := HM.out.size; simp; omega) | (have := B5.size; simp; omega)) _ | refine Below.setCell ?_ (by first | exact HM.out.size | (have := HM.out.size; simp; omega)) _)))
              (((with_reducible refine (HAt.out _).mono ?_); rintro e w5 ⟨rfl, hb5⟩; obtain ⟨hcl, hfz⟩ := bcell hb5; have B5 : Below w3.heap.size w3 w5 := (by
                have hb6 := hb5
                revert hb6
                first
                  | exact fun hb6 => HM.out.drew.trans (hb6.mono HM.out.size)
                  | exact fun hb6 => (HM.out.alloc HM.out.size _).drew.trans (hb6.mono (HM.out.alloc HM.out.size _).size))))
            · have F := at_a B5 pz po
              generalize w5.alloc (.cells #[.int .i64 pz, .int .i64 po] 50) = w6 at F ⊢
              generalize w5.heap.size = b6 at F ⊢
              exact ⟨b6, F, rfl⟩
            · have F := at_b HM.out B5 hb5 pz po
              generalize (w5.setCell ⟨wr.heap.size, 0, none⟩ (.int .i64 pz)).setCell ⟨wr.heap.size, 1, none⟩ (.int .i64 po) = w6 at F ⊢
              generalize wr.heap.size = b6 at F ⊢
              exact ⟨b6, F, rfl⟩
          rintro w6 b6 ⟨hb6, a60, a61⟩
          have B6 := Lib.hid hb6
          clear hb6
          have HN := Lib.hid (show (told = true ↔ TP seq size ps place (k + 1)) from ⟨fun h => by
            obtain ⟨j, h1, h2, h3⟩ := HTo.out.1 h
            exact ⟨j, by omega, h2, h3⟩, fun ⟨j, h1, h2, h3⟩ => by
            rcases Nat.lt_or_ge j k with h4 | h4
            · exact HTo.out.2 ⟨j, h4, h2, h3⟩
            · obtain rfl : j = k := by omega
              rw [HGx.out] at h2
              exact absurd h2 HIn.out⟩)
          clear a60 a61 ck
          go_wp2
          go_roundw
          case rel => exact ⟨k + 1, told, by omega, rfl, by go_num, HN.out, B6.out⟩
          case measure => first | (simp [intOf]; done) | (simp [intOf]; omega)
      · obtain rfl : len = k := by omega
        obtain ⟨c0, c1, c2, c3, c4⟩ := SO.out _ (L3.out.on HM.out).1
        have HAp := fun w' => rat_any conv soft seq size opn place w' HY.out.2.1 (wf_i64 HP64.out)
        rw [show zoneOf conv seq size place = (plN conv seq size place).1 from rfl, show offOf seq size place = (plN conv seq size place).2 from rfl] at HAp
        by_cases hin : 1 ≤ place ∧ place ≤ seq * size
        · have hp64 := plN_w64 (n := place) HY.out.2.1
          have hpv : pv conv seq size l0 (plN conv seq size place) = lk l0 place := pv_num (by obtain ⟨q1, q2, q3, q4, q5⟩ := HY.out.2.1; omega) hin
          have HBk := Lib.hid fun w' (h : Below w3.heap.size w3 w') => lvblock_any w' (plN conv seq size place) hp64.1 hp64.2 (L3.out.2.1.on h)
          rw [hpv] at HBk
          have hth : (lk l0 place).isSome = told := by
            rw [Bool.eq_iff_iff, HTo.out]
            constructor
            · intro h
              obtain ⟨j, h1, h2⟩ := TO.out.2 place h
              exact ⟨j, h1, by rw [h2]; exact hin, h2⟩
            · rintro ⟨j, h1, h2, h3⟩
              have := TO.out.1 j h1 h2
              rw [h3] at this
              rw [this]
              rfl
          rw [hth] at HBk
          rw [isB_iff.2 hin] at HAp
          have HAp := Lib.hid HAp
          have hq : (told == told) = true := by simp
          clear hp64 hpv hth hin
          generalize lk l0 place = lkk at HBk
          generalize plN conv seq size place = pl at *
          obtain ⟨pz, po⟩ := pl
          go_wp2_with fail
          refine (HAp.out _).mono ?_
          rintro e w6 ⟨rfl, hb6⟩
          have B6 := Lib.hid ((HM.out.trans (hb6.mono HM.out.size)).alloc (HM.out.trans (hb6.mono HM.out.size)).size (.cells #[.int .i64 pz, .int .i64 po] 50))
          clear hb6 c0 c1 c2 c3 c4
          go_wp2_with fail
          refine (HBk.out _ B6.out).mono ?_
          rintro e w7 ⟨rfl, hb7⟩
          have B7 := Lib.hid (L3.out.1.trans ((B6.out.trans (hb7.mono B6.out.size)).mono L3.out.1.size))
          clear hb7
          go_wp2
          go_ret
          exact ⟨rfl, H0.out.1.trans (B7.out.mono H0.out.1.size)⟩
        · have hp64 := plN_w64 (n := place) HY.out.2.1
          have HBk := Lib.hid fun w' (h : Below w3.heap.size w3 w') => lvblock_any w' (plN conv seq size place) hp64.1 hp64.2 (L3.out.2.1.on h)
          have hib : isB seq size place = false := by
            cases h : isB seq size place
            · rfl
            · exact absurd (isB_iff.1 h) hin
          rw [hib] at HAp
          have HAp := Lib.hid HAp
          clear hp64 hib hin
          generalize pv conv seq size l0 (plN conv seq size place) = pvv at HBk
          generalize plN conv seq size place = pl at *
          obtain ⟨pz, po⟩ := pl
          go_wp2_with fail
          refine (HAp.out _).mono ?_
          rintro e w6 ⟨rfl, hb6⟩
          have B6 := Lib.hid ((HM.out.trans (hb6.mono HM.out.size)).alloc (HM.out.trans (hb6.mono HM.out.size)).size (.cells #[.int .i64 pz, .int .i64 po] 50))
          clear hb6 c0 c1 c2 c3 c4
          go_wp2_with fail
          refine (HBk.out _ B6.out).mono ?_
          rintro e w7 ⟨rfl, hb7⟩
          have B7 := Lib.hid (L3.out.1.trans ((B6.out.trans (hb7.mono B6.out.size)).mono L3.out.1.size))
          clear hb7
          go_wp2
          go_ret
          exact ⟨rfl, H0.out.1.trans (B7.out.mono H0.out.1.size)⟩
end Go.Proofs.Ytajehmdmgkhkpaa

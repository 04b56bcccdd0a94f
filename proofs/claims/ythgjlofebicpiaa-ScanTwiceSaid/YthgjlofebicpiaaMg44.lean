/-
  ScX
-/
import Derived.Test.YthgjlofebicpiaaMg43
/-
  The laws Chains and Twice of layer 14.
-/
namespace Go.Proofs.Ythgjlofebicpiaa
open Go.RowKit Geom Zone Dev Word Rec Scan
set_option linter.unusedVariables false

set_option maxRecDepth 100000 in
set_option maxHeartbeats 4000000 in
theorem sclaw_chains (A : Option Addr) (len cap : Nat) (l : List Fo) (s : Int) (w : World) (hlm : len ≤ maxLen) (hl : l.length = len) (hin : ∀ f ∈ l, FIn f) (hr : Rd w w.heap.size A (fls l)) (h64 : I64 s) :
    Calls Try.prog 4 #[.slice A len cap, .int .i64 s] w fun e w' => e = .returned (.bool true) ∧ Below w.heap.size w w' := by
  have QW := Lib.hid fun w' => awake_any w'
  have HN := Lib.hid (And.intro hl (And.intro hin hr))
  have hlm' := hlm
  unfold maxLen at hlm'
  unfold I64 at h64
  clear hl hin hr
  go_enter Try.func4, Try.ntmps4
  go_wp2_with fail
  refine (QW.out _).mono ?_
  rintro e w1 ⟨rfl, hB1⟩
  have HB1 := Lib.hid hB1
  clear hB1
  by_cases q1 : (len : Int) ≤ 60
  · by_cases q2 : 0 ≤ s
    · by_cases q3 : s ≤ 1099511627776
      · have HNr : Hid (Rd w1 w1.heap.size A (fls l)) := Lib.hid ((HN.out.2.2.below HB1.out).more HB1.out.size)
        have hs : 0 ≤ s ∧ s ≤ 9223372036854000000 := ⟨q2, by omega⟩
        have HS := Lib.hid hs
        have hl1 : len ≤ 100000 := by omega
        go_wp2_with fail
        refine (rchain_any A len cap l s w1 HN.out.1 hl1 HN.out.2.1 hs HNr.out).mono ?_
        rintro e w2 ⟨V, rfl, hown, hB2⟩
        obtain ⟨A2, c2, rfl⟩ := own_slice hown
        have HO2 := Lib.hid hown
        have HB2 := Lib.hid hB2
        have HCi := Lib.hid (chain_in (s := s) HN.out.2.1)
        have HCn := Lib.hid (show (chainS l s).length ≤ len from HN.out.1 ▸ chain_length l s)
        clear hown hB2
        go_wp2_with fail
        refine (chain_any A len cap l s w2 HN.out.1 hl1 HN.out.2.1 HS.out ((HNr.out.below HB2.out).more HB2.out.size)).mono ?_
        rintro e w3 ⟨V3, rfl, hown, hB3⟩
        obtain ⟨A3, c3, rfl⟩ := own_slice hown
        have HO3 := Lib.hid hown
        have HB3 := Lib.hid (bthen HB2.out hB3)
        have HSm := Lib.hid (fsame_any A3 A2 (chainS l s).length c3 (chainS l s).length c2 w3 (by have := HCn.out; omega) (by have := HCn.out; omega) (chainS l s) (chainS l s) rfl rfl HCi.out HCi.out w3.heap.size (Rd.own HO3.out) ((Rd.own HO2.out).below hB3 |>.more hB3.size))
        clear hown hB3
        go_wp2_with fail
        refine HSm.out.mono ?_
        rintro e w4 ⟨⟨b, rfl, hb⟩, n, rfl⟩
        obtain rfl : b = true := hb.2 trivial
        have HB4 := Lib.hid (below_draws HB3.out n)
        have HLs := Lib.hid (last_any A len cap l s (w3.drewN n) HN.out.1 hl1 HN.out.2.1 HS.out ((HNr.out.below HB4.out).more HB4.out.size))
        have hcn : ((chainS l s).length : Int) ≤ 60 := by have := HCn.out; omega
        clear hb HSm HO2 HO3
        generalize w3.drewN n = w4 at *
        generalize (chainS l s).length = k at *
        go_wp2_with fail
        refine HLs.out.mono ?_
        rintro e w5 ⟨rfl, hB5⟩
        have HB5 := Lib.hid (bthen HB1.out (bthen HB4.out hB5))
        have hsk := IntWalk.i64_in (s + (k : Int)) (by omega)
        clear hB5 HLs
        go_wp2
        go_ret
        exact ⟨rfl, HB5.out⟩
      · go_wp2_with fail
        refine (QW.out _).mono ?_
        rintro e w9 ⟨rfl, hb9⟩
        have H9 := Lib.hid (bthen HB1.out hb9)
        clear hb9
        go_wp2
        go_ret
        exact ⟨rfl, H9.out⟩
    · go_wp2_with fail
      refine (QW.out _).mono ?_
      rintro e w9 ⟨rfl, hb9⟩
      have H9 := Lib.hid (bthen HB1.out hb9)
      clear hb9
      go_wp2
      go_ret
      exact ⟨rfl, H9.out⟩
  · go_wp2_with fail
    refine (QW.out _).mono ?_
    rintro e w9 ⟨rfl, hb9⟩
    have H9 := Lib.hid (bthen HB1.out hb9)
    clear hb9
    go_wp2
    go_ret
    exact ⟨rfl, H9.out⟩
set_option maxRecDepth 100000 in
set_option maxHeartbeats 4000000 in
theorem sclaw_twice (A : Option Addr) (len cap : Nat) (l : List Fo) (s : Int) (w : World) (hlm : len ≤ maxLen) (hl : l.length = len) (hin : ∀ f ∈ l, FIn f) (hr : Rd w w.heap.size A (fls l)) (h64 : I64 s) :
    Calls Try.prog 6 #[.slice A len cap, .int .i64 s] w fun e w' => e = .returned (.bool true) ∧ Below w.heap.size w w' := by
  have QW := Lib.hid fun w' => awake_any w'
  have HN := Lib.hid (And.intro hl (And.intro hin hr))
  have hlm' := hlm
  unfold maxLen at hlm'
  unfold I64 at h64
  clear hl hin hr
  go_enter Try.func6, Try.ntmps6
  go_wp2_with fail
  refine (QW.out _).mono ?_
  rintro e w1 ⟨rfl, hB1⟩
  have HB1 := Lib.hid hB1
  clear hB1
  by_cases q1 : (len : Int) ≤ 60
  · by_cases q2 : 0 ≤ s
    · by_cases q3 : s ≤ 549755813888
      · have HNr : Hid (Rd w1 w1.heap.size A (fls l)) := Lib.hid ((HN.out.2.2.below HB1.out).more HB1.out.size)
        have hs : 0 ≤ s ∧ s ≤ 9223372036854000000 := ⟨q2, by omega⟩
        have HS := Lib.hid hs
        have hl1 : len ≤ 100000 := by omega
        have HCi := Lib.hid (chain_in (s := s) HN.out.2.1)
        have HCn := Lib.hid (show (chainS l s).length ≤ len from HN.out.1 ▸ chain_length l s)
        obtain ⟨m, hm38, hsz⟩ := big_size (P := Try.prog) (t := 56) (s := 38) (by kernel_rfl)
        have hm0 : ¬ m = 0 := by omega
        have HM := Lib.hid hm38
        have HQ := Lib.hid fun (i : Nat) (f : Fo) (h : (chainS l s)[i]? = some f) => chain_seq h
        have HSf := Lib.hid (chain_self l s)
        have HEn := Lib.hid (chain_end l s)
        clear hm38
        go_wp2_with fail
        refine (chain_any A len cap l s w1 HN.out.1 hl1 HN.out.2.1 hs HNr.out).mono ?_
        rintro e w2 ⟨V, rfl, hown, hB2⟩
        obtain ⟨A2, c2, rfl⟩ := own_slice hown
        have HO2 : Hid (Rd w2 w2.heap.size A2 (fls (chainS l s))) := Lib.hid (Rd.own hown)
        have HB2 := Lib.hid hB2
        clear hown hB2
        have HLs := Lib.hid (last_any A len cap l s w2 HN.out.1 hl1 HN.out.2.1 HS.out ((HNr.out.below HB2.out).more HB2.out.size))
        generalize chainS l s = c at *
        have hcn : (c.length : Int) ≤ 60 := by have := HCn.out; omega
        go_wp2_with fail
        go_loop [6] (fun i => ∃ k : Nat, k ≤ c.length ∧ i = .int .i64 k) (fun i => c.length - (intOf i).toNat)
        case atStart => exact ⟨0, by omega, rfl⟩
        case round =>
          obtain ⟨k, hk, rfl⟩ := hrel
          by_cases hlt : k < c.length
          · have hlk : c[k]? = some (c[k]'hlt) := List.getElem?_eq_getElem hlt
            have hsq := HQ.out k _ hlk
            obtain ⟨ad, rfl, hj1, c3, hj2⟩ := fo_load (m := m) HO2.out HCi.out hlk HM.out
            clear hj1 hj2 hlk
            rw [hsq] at c3
            have hki : (k : Int) < (c.length : Int) := by omega
            have hs1 : IntKind.i64.wrap (s + 1) = s + 1 := IntWalk.i64_in _ (by omega)
            have hs2 : IntKind.i64.wrap (s + 1 + (k : Int)) = s + 1 + (k : Int) := IntWalk.i64_in _ (by omega)
            clear hsq
            go_wp2
            go_round
            case rel => exact ⟨k + 1, by omega, by go_num⟩
            case measure => first | (simp [intOf]; done) | (simp [intOf]; omega)
          · obtain rfl : c.length = k := by omega
            go_wp2_with fail
            refine HLs.out.mono ?_
            rintro e w3 ⟨rfl, hB3⟩
            have HB3 := Lib.hid (bthen HB2.out hB3)
            have HO3 : Hid (Rd w3 w3.heap.size A2 (fls c)) := Lib.hid ((HO2.out.below hB3).more hB3.size)
            clear hB3 HLs
            go_wp2_with fail
            refine (chain_any A2 c.length c2 c s w3 rfl (by omega) HCi.out HS.out HO3.out).mono ?_
            rw [HSf.out]
            rintro e w4 ⟨V4, rfl, hown4, hB4⟩
            obtain ⟨A4, c4, rfl⟩ := own_slice hown4
            have HO4 : Hid (Rd w4 w4.heap.size A4 (fls c)) := Lib.hid (Rd.own hown4)
            have HB4 := Lib.hid (bthen HB3.out hB4)
            have HO5 : Hid (Rd w4 w4.heap.size A2 (fls c)) := Lib.hid ((HO3.out.below hB4).more hB4.size)
            have HSm := Lib.hid (fsame_any A4 A2 c.length c4 c.length c2 w4 (by omega) (by omega) c c rfl rfl HCi.out HCi.out w4.heap.size HO4.out HO5.out)
            clear hown4 hB4
            go_wp2_with fail
            refine HSm.out.mono ?_
            rintro e w5 ⟨⟨b, rfl, hb⟩, n, rfl⟩
            obtain rfl : b = true := hb.2 trivial
            have HB5 := Lib.hid (below_draws HB4.out n)
            have HCE := Lib.hid (chain_any A2 c.length c2 c (s + c.length) (w4.drewN n) rfl (by omega) HCi.out (by have := HS.out; omega) (HO5.out.drewN n))
            rw [HEn.out] at HCE
            have hsk := IntWalk.i64_in (s + (c.length : Int)) (by omega)
            clear hb HSm HO4
            generalize w4.drewN n = w5 at *
            generalize c.length = k at *
            go_wp2_with fail
            refine HCE.out.mono ?_
            rintro e w6 ⟨V6, rfl, hown6, hB6⟩
            obtain ⟨A6, c6, rfl⟩ := own_slice hown6
            have HB6 := Lib.hid (bthen HB1.out (bthen HB5.out hB6))
            clear hB6 hown6 HCE
            go_wp2
            go_ret
            exact ⟨rfl, HB6.out⟩
      · go_wp2_with fail
        refine (QW.out _).mono ?_
        rintro e w9 ⟨rfl, hb9⟩
        have H9 := Lib.hid (bthen HB1.out hb9)
        clear hb9
        go_wp2
        go_ret
        exact ⟨rfl, H9.out⟩
    · go_wp2_with fail
      refine (QW.out _).mono ?_
      rintro e w9 ⟨rfl, hb9⟩
      have H9 := Lib.hid (bthen HB1.out hb9)
      clear hb9
      go_wp2
      go_ret
      exact ⟨rfl, H9.out⟩
  · go_wp2_with fail
    refine (QW.out _).mono ?_
    rintro e w9 ⟨rfl, hb9⟩
    have H9 := Lib.hid (bthen HB1.out hb9)
    clear hb9
    go_wp2
    go_ret
    exact ⟨rfl, H9.out⟩
end Go.Proofs.Ythgjlofebicpiaa

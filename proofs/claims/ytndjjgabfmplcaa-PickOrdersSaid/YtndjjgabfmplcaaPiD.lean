/-
  Package pick: the best candidate.
-/
import Derived.Test.YtndjjgabfmplcaaPiC
namespace Go.Proofs.Ytndjjgabfmplcaa
open Go.RowKit Pick
set_option linter.unusedVariables false

def Pick.cd : Option Cd → Cd
  | none => ⟨0, 0, 0⟩
  | some b => b
theorem zn_cd (o : Option Cd) : zn o = (cd o).z := by cases o <;> rfl
theorem zero_cand (w : World) : (zeroValue 23).run Try.prog w = .ok (.agg (kcs ⟨0, 0, 0⟩).toArray) w := (zero_of_info (P := Try.prog) (t := 23) (v := .agg (kcs ⟨0, 0, 0⟩).toArray) (n := 3) (by kernel_rfl)).1 w
theorem take_next {l : List Cd} {k : Nat} {c : Cd} (h : l[k]? = some c) : l.take (k + 1) = l.take k ++ [c] := by
  obtain ⟨hk, rfl⟩ := List.getElem?_eq_some_iff.1 h
  exact List.take_succ_eq_append_getElem hk
/-- what stands in memory in Best's loop -/
structure BstSt (W w : World) (b : Nat) (A : Option Addr) (l : List Cd) (x : Cd) : Prop where
  bx : Box w b 23 (kcs x)
  rd : Rd w W.heap.size A (kls l)
  lt : W.heap.size ≤ b
  bl : Below W.heap.size W w
theorem BstSt.on {W w w' : World} {b : Nat} {A : Option Addr} {l : List Cd} {x : Cd} (h : BstSt W w b A l x) (hb : Below w.heap.size w w') : BstSt W w' b A l x :=
  ⟨h.bx.on hb, h.rd.below (hb.mono h.bl.size), h.lt, h.bl.trans (hb.mono h.bl.size)⟩
theorem BstSt.sets {W w : World} {b : Nat} {A : Option Addr} {l : List Cd} {x : Cd} (h : BstSt W w b A l x) (y : Cd) : BstSt W (((w.setCell ⟨b, 0, none⟩ (.int .i64 y.z)).setCell ⟨b, 1, none⟩ (.int .i64 y.l)).setCell ⟨b, 2, none⟩ (.int .i64 y.a)) b A l y := by
  have hb : ∀ a, Below W.heap.size a w → Below W.heap.size a (((w.setCell ⟨b, 0, none⟩ (.int .i64 y.z)).setCell ⟨b, 1, none⟩ (.int .i64 y.l)).setCell ⟨b, 2, none⟩ (.int .i64 y.a)) := fun a ha => ((ha.setCell (p := ⟨b, 0, none⟩) h.lt _).setCell (p := ⟨b, 1, none⟩) h.lt _).setCell (p := ⟨b, 2, none⟩) h.lt _
  exact ⟨((h.bx.set 0 _).set 1 _).set 2 _, h.rd.below (hb w (Below.refl _ _)), h.lt, hb W h.bl⟩
set_option maxRecDepth 100000 in
set_option maxHeartbeats 4000000 in
theorem pbest_any (s p : Int) (A : Option Addr) (n cap : Nat) (l : List Cd) (w : World) (hs : Size s) (hl : l.length = n) (hm : n ≤ maxLen) (ha : ∀ x ∈ l, Aged x) (hr : Rd w w.heap.size A (kls l)) :
    Calls Try.prog 13 #[.slice A n cap, .int .i64 s, .int .i64 p] w fun e w' => ∃ o, Best s p l o ∧ e = .returned (.tuple #[.int .i64 (zn o), .bool o.isSome]) ∧ Below w.heap.size w w' := by
  have HL := Lib.hid (And.intro hs (And.intro hl ha))
  have HR := Lib.hid hr
  unfold maxLen at hm
  clear hs hl ha hr
  go_enter Try.func13, Try.ntmps13
  go_wp2_with (first
    | ((with_reducible refine wpList_alloc_box _ (o := ⟨some 8, .alloc _, _, _, _, _⟩) rfl _ rfl (kcs ⟨0, 0, 0⟩) zero_cand ?_); intro w1 x1 hB1 hs1; have H1 : Hid (BstSt w w1 w.heap.size A l ⟨0, 0, 0⟩) := Lib.hid ⟨x1, HR.out.below hB1, Nat.le_refl _, hB1⟩; clear x1 hB1 hs1)
    | fail)
  go_loopw [9, 14] (fun fd i wr => ∃ (k : Nat) (o : Option Cd), k ≤ n ∧ i = .int .i64 k ∧ fd = .bool o.isSome ∧ Best s p (l.take k) o ∧ BstSt w wr w.heap.size A l (cd o)) (fun _ i _ => n - (intOf i).toNat)
  case atStart => exact ⟨0, none, by omega, rfl, rfl, best_nil _ _, H1.out⟩
  case round =>
    obtain ⟨k, o, hk, rfl, rfl, hbst, hst⟩ := hrel
    have HB := Lib.hid hbst
    have HS := Lib.hid hst
    clear hbst hst
    by_cases hlt : k < n
    · have hkl : k < l.length := by rw [HL.out.2.1]; exact hlt
      obtain ⟨c, hc⟩ : ∃ c, l[k]? = some c := ⟨_, List.getElem?_eq_getElem hkl⟩
      obtain ⟨ad, rfl, hadb, c0, c1, c2⟩ := cand_at HS.out.rd hc
      have HT := Lib.hid (take_next hc)
      have HCm := Lib.hid (HL.out.2.2 c (List.mem_of_getElem? hc))
      have hki : (k : Int) < (n : Int) := by omega
      have HM : Hid (∀ w, Calls Try.prog 16 #[kv c.z c.l c.a, .int .i64 s] w fun e w' => e = .returned (.bool (decide (Okc s c))) ∧ Below w.heap.size w w') := Lib.hid fun w => maybe_any s c w
      clear hc hkl
      go_wp2_with fail
      have HSw : Hid (BstSt w (wr.alloc (.cells #[.int .i64 c.z, .int .i64 c.l, .int .i64 c.a] 23)) w.heap.size (some ad) l (cd o) ∧ Box (wr.alloc (.cells #[.int .i64 c.z, .int .i64 c.l, .int .i64 c.a] 23)) wr.heap.size 23 (kcs c)) :=
        Lib.hid ⟨HS.out.on ((Below.refl _ _).alloc (Nat.le_refl _) _), Box.new wr _ (kcs c)⟩
      generalize World.alloc _ _ = w2 at HSw ⊢
      generalize wr.heap.size = g at HSw ⊢
      clear c0 c1 c2 HS
      by_cases hok : Okc s c
      · rw [decide_eq_true hok] at HM
        refine (HM.out _).mono ?_
        rintro e w3 ⟨rfl, hb3⟩
        have HS3 := Lib.hid (And.intro (HSw.out.1.on hb3) (HSw.out.2.on hb3))
        obtain ⟨c0, c1, c2⟩ := HS3.out.2.kd
        obtain ⟨b0, b1, b2⟩ := HS3.out.1.bx.kd
        clear hb3 HSw HM
        cases o with
        | none =>
          have HF := Lib.hid (best_first HB.out hok)
          clear HB
          have f0 := HS3.out.1.bx.frozen 0
          have f1 := HS3.out.1.bx.frozen 1
          have f2 := HS3.out.1.bx.frozen 2
          have H4 := Lib.hid (HS3.out.1.sets c)
          go_wp2
          go_roundw
          case rel => exact ⟨k + 1, some c, by omega, by go_num, rfl, by rw [HT.out]; exact HF.out, H4.out⟩
          case measure => first | (simp [intOf]; done) | (simp [intOf]; omega)
        | some b =>
          have HPB : Hid (∀ w, Calls Try.prog 10 #[kv c.z c.l c.a, kv b.z b.l b.a, .int .i64 s, .int .i64 p] w fun e w' => e = .returned (.bool (decide (Bet s p c b))) ∧ Below w.heap.size w w') := Lib.hid fun w => pbetter_any s p c b w HL.out.1 ⟨hok, HCm.out⟩ ⟨HB.out.2.1, HL.out.2.2 b (List.mem_of_mem_take HB.out.1)⟩
          by_cases hbt : Bet s p c b
          · have HF := Lib.hid (best_more HL.out.1 HB.out hok hbt)
            rw [decide_eq_true hbt] at HPB
            clear HB hbt hok
            go_wp2_with fail
            refine (HPB.out _).mono ?_
            rintro e w3b ⟨rfl, hb3⟩
            replace HS3 := Lib.hid (And.intro (HS3.out.1.on hb3) (HS3.out.2.on hb3))
            clear c0 c1 c2 b0 b1 b2
            obtain ⟨c0, c1, c2⟩ := HS3.out.2.kd
            obtain ⟨b0, b1, b2⟩ := HS3.out.1.bx.kd
            clear hb3 HPB
            have f0 := HS3.out.1.bx.frozen 0
            have f1 := HS3.out.1.bx.frozen 1
            have f2 := HS3.out.1.bx.frozen 2
            have H4 := Lib.hid (HS3.out.1.sets c)
            go_wp2
            go_roundw
            case rel => exact ⟨k + 1, some c, by omega, by go_num, rfl, by rw [HT.out]; exact HF.out, H4.out⟩
            case measure => first | (simp [intOf]; done) | (simp [intOf]; omega)
          · have HF := Lib.hid (best_less HB.out hbt)
            rw [decide_eq_false hbt] at HPB
            clear HB hbt hok
            go_wp2_with fail
            refine (HPB.out _).mono ?_
            rintro e w3b ⟨rfl, hb3⟩
            replace HS3 := Lib.hid (HS3.out.1.on hb3)
            clear c0 c1 c2 b0 b1 b2 hb3 HPB
            go_wp2
            go_roundw
            case rel => exact ⟨k + 1, some b, by omega, by go_num, rfl, by rw [HT.out]; exact HF.out, HS3.out⟩
            case measure => first | (simp [intOf]; done) | (simp [intOf]; omega)
      · have HF := Lib.hid (best_skip HB.out hok)
        rw [decide_eq_false hok] at HM
        refine (HM.out _).mono ?_
        rintro e w3 ⟨rfl, hb3⟩
        have HS3 := Lib.hid (HSw.out.1.on hb3)
        clear hb3 HSw HM HB hok
        go_wp2
        go_roundw
        case rel => exact ⟨k + 1, o, by omega, by go_num, rfl, by rw [HT.out]; exact HF.out, HS3.out⟩
        case measure => first | (simp [intOf]; done) | (simp [intOf]; omega)
    · obtain rfl : n = k := by omega
      have HE := Lib.hid (show Best s p l o by have h := HB.out; rwa [List.take_of_length_le (by rw [HL.out.2.1]; exact Nat.le_refl _)] at h)
      obtain ⟨b0, b1, b2⟩ := HS.out.bx.kd
      rw [← zn_cd] at b0
      generalize hz : zn o = z at b0
      generalize ho : o.isSome = ok at *
      go_wp2
      exact bodyPost_ret (v := .tuple #[.int .i64 z, .bool ok]) (by simp [results, Try.results13, go_sem]) rfl ⟨o, HE.out, by rw [hz, ho], HS.out.bl⟩
end Go.Proofs.Ytndjjgabfmplcaa

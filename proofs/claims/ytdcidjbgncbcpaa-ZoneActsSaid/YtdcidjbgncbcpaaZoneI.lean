/-
  Are zones right? By the program.
-/
import Derived.Test.YtdcidjbgncbcpaaZoneH
namespace Go.Proofs.Ytdcidjbgncbcpaa
open Go.RowKit Geom Zone
set_option linter.unusedVariables false

theorem One.alloc {w w' : World} {conv soft seq size opn : Int} (h : One w w' conv soft seq size opn) (o : Obj) : One w (w'.alloc o) conv soft seq size opn := h.below ((Below.refl _ _).alloc (Nat.le_refl _) o)
theorem Rd.one {w w' : World} {conv soft seq size opn : Int} {A : Option Addr} {xs : List Value} (hr : Rd w w.heap.size A xs) (h : One w w' conv soft seq size opn) : Rd w' w'.heap.size A xs := (hr.below h.2).more h.2.size

set_option maxRecDepth 100000 in
set_option maxHeartbeats 2000000 in
theorem zright_any (conv soft seq size opn : Int) (A : Option Addr) (n cap : Nat) (L : List Z) (w : World) (hm : n ≤ maxLen) (hn : L.length = n) (H : Some conv seq size) (hr : Rd w w.heap.size A (zc L)) :
    Calls Try.prog 10 #[.agg #[.int .i64 conv, .int .i64 soft, .int .i64 seq, .int .i64 size, .int .i64 opn], .slice A n cap] w fun e w' => e = .returned (.bool (fitB conv seq size opn L)) ∧ Below w.heap.size w w' := by
  have HZ := Lib.hid fun w => zones_any conv soft seq size opn w H
  have H0 := Lib.hid (One.new w conv soft seq size opn 23)
  have HC := Lib.hid fun w' (h : One w w' conv soft seq size opn) => countOpen_any A n cap L w' hm hn (hr.one h)
  obtain ⟨q1, q2, q3, q4, q5⟩ := H
  have HN := Lib.hid hn
  clear hn
  unfold maxLen at hm
  by_cases hne : (n : Int) = conv + seq
  · go_enter Try.func10, Try.ntmps10
    go_wp2_with fail
    generalize World.alloc _ _ = w0 at H0 ⊢
    refine (HZ.out _).mono ?_
    rintro e w1 ⟨rfl, hb⟩
    have H1 := Lib.hid (One.below H0.out hb)
    clear H0 hb
    have hq : ((n : Int) != conv + seq) = false := by simpa using hne
    go_wp2_with fail
    go_loopw [14] (fun i wr => ∃ k : Nat, k ≤ n ∧ i = .int .i64 k ∧ (∀ i, i < k → fitZ conv size i (L.getD i (0, 0))) ∧ One w wr conv soft seq size opn) (fun i _ => n - (intOf i).toNat)
    case atStart => exact ⟨0, by omega, rfl, fun i hi => absurd hi (Nat.not_lt_zero i), H1.out⟩
    case round =>
      clear H1
      obtain ⟨k, hk, rfl, hfit, hx⟩ := hrel
      have Hfit := Lib.hid hfit
      clear hfit
      by_cases hlt : k < n
      · have hz := getD_of (L := L) (k := k) (d := (0, 0)) (by rw [HN.out]; exact hlt)
        obtain ⟨ad, rfl, _, hc, hc1⟩ := (hr.one hx).zone hz
        generalize L.getD k (0, 0) = z at *
        have HZK := Lib.hid hz
        have HX := Lib.hid (hx.alloc (.cells #[.int .i64 z.1, .int .i64 z.2] 42))
        obtain ⟨c0, c1, c2, c3, c4, hlt5⟩ := id hx.1
        clear hz hr
        by_cases h1 : (k : Int) < conv
        · have hd1 : decide (conv ≤ (k : Int)) = false := by simpa using h1
          go_wp2_with fail
          clear c0 c1 c2 c3 c4 hlt5 hc hc1 hx
          generalize World.alloc _ _ = w1 at HX ⊢
          refine (zrightSoft_any _ _ _).mono ?_
          rintro e w2 ⟨rfl, hb⟩
          have H2 := Lib.hid (One.below HX.out hb)
          obtain ⟨c0, c1, c2, c3, c4, hlt5⟩ := id H2.out.1
          clear HX hb
          by_cases h2 : z.1 = 4 ∧ z.2 = 0
          · have hd2 : (z.1 == 4 && z.2 == 0) = true := by simpa using h2
            have HF := Lib.hid (fit_ext Hfit.out HZK.out ((fit_lo h1).2 h2))
            clear Hfit
            go_wp2
            go_roundw
            case rel => exact ⟨k + 1, by omega, by go_num, HF.out, H2.out⟩
            case measure => simp [intOf]; omega
          · have hd2 : (z.1 == 4 && z.2 == 0) = false := by simpa using h2
            have HF := Lib.hid (fit_no (fit_bad (seq := seq) (opn := opn) HZK.out (fun h => h2 ((fit_lo (size := size) h1).1 h))))
            go_wp2
            go_ret
            exact ⟨ret_bool HF.out, H2.out.2⟩
        · have hd1 : decide ((k : Int) < conv) = false := decide_eq_false h1
          go_wp2_with fail
          clear c0 c1 c2 c3 c4 hlt5 hc hc1 hx
          generalize World.alloc _ _ = w1 at HX ⊢
          refine (rightSeq_any _ _ _ _).mono ?_
          rintro e w2 ⟨rfl, hb⟩
          have H2 := Lib.hid (One.below HX.out hb)
          obtain ⟨c0, c1, c2, c3, c4, hlt5⟩ := id H2.out.1
          clear HX hb
          by_cases h2 : seqB size z = true
          · have hd2 : seqB size (z.1, z.2) = true := h2
            have HF := Lib.hid (fit_ext Hfit.out HZK.out ((fit_hi (by omega)).2 h2))
            clear Hfit
            go_wp2
            go_roundw
            case rel => exact ⟨k + 1, by omega, by go_num, HF.out, H2.out⟩
            case measure => simp [intOf]; omega
          · have hd2 : seqB size (z.1, z.2) = false := by simpa using h2
            have HF := Lib.hid (fit_no (fit_bad (seq := seq) (opn := opn) HZK.out (fun h => h2 ((fit_hi (size := size) (by omega)).1 h))))
            go_wp2
            go_ret
            exact ⟨ret_bool HF.out, H2.out.2⟩
      · obtain rfl : n = k := by omega
        have HD := Lib.hid (fit_all (conv := conv) (seq := seq) (size := size) (opn := opn) (L := L) (by rw [HN.out]; exact hne) (by rw [HN.out]; exact Hfit.out))
        have HX := Lib.hid hx.drew
        clear Hfit hx hr
        go_wp2
        refine wp_region_class (fun w' => One w w' conv soft seq size opn) (by kernel_rfl) (by kernel_rfl) HX.out ?_
        intro X hX f hf hg
        have c0 := fun x => (hf x).1.1
        have c1 := fun x => (hf x).1.2.1
        have c2 := fun x => (hf x).1.2.2.1
        have c3 := fun x => (hf x).1.2.2.2.1
        have c4 := fun x => (hf x).1.2.2.2.2.1
        have Hf := Lib.hid hf
        have Hg := Lib.hid hg
        clear hf hg HX
        repeat (go_big_quiet_step (exact calls_class (HC.out _ (Hf.out _)) (fun _ hb => Hg.out _ ((Hf.out _).below hb))))
        refine wpQuiet_nil ?_
        rintro _ ⟨x, rfl⟩
        have hbb := (Hf.out x).2
        go_wp2
        go_ret
        exact ⟨ret_bool HD.out, hbb⟩
  · have hq : ((n : Int) != conv + seq) = true := by simpa using hne
    have HD := Lib.hid (fit_no (conv := conv) (seq := seq) (size := size) (opn := opn) (L := L) (fun h => hne (by rw [← h.1, HN.out])))
    go_enter Try.func10, Try.ntmps10
    go_wp2_with fail
    generalize World.alloc _ _ = w0 at H0 ⊢
    refine (HZ.out _).mono ?_
    rintro e w1 ⟨rfl, hb⟩
    have H1 := Lib.hid (One.below H0.out hb)
    clear H0 hb
    go_wp2
    go_ret
    exact ⟨ret_bool HD.out, H1.out.2⟩
end Go.Proofs.Ytdcidjbgncbcpaa

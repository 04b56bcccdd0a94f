/-
  The walk of the law GeomPlaces.
-/
import Derived.Test.YtcpnbdncdkcklaaGeomL
namespace Go.Proofs.Ytcpnbdncdkcklaa
open Go.RowKit Geom
set_option linter.unusedVariables false

set_option maxRecDepth 100000 in
set_option maxHeartbeats 4000000 in
theorem law_places (conv soft seq size opn zone off n : Int) (w : World) (hn : -9223372036854775808 ≤ n ∧ n < 9223372036854775808) :
    Calls Try.prog 4 #[.agg #[.int .i64 conv, .int .i64 soft, .int .i64 seq, .int .i64 size, .int .i64 opn], .agg #[.int .i64 zone, .int .i64 off], .int .i64 n] w fun e w' => e = .returned (.bool true) ∧ Below w.heap.size w w' := by
  have H0 := Lib.hid (Two.new w conv soft seq size opn zone off 23 30)
  have HB := Lib.hid fun w => rright_any conv soft seq size opn w
  by_cases hok : Ok conv soft seq size opn
  · have H := Lib.hid hok.some
    have HAt := Lib.hid fun w => at_any conv soft seq size opn n w H.out
    have HRt := Lib.hid fun w => rat_any conv soft seq size opn n w H.out hn
    have HN := Lib.hid fun w => num_any conv soft seq size opn zone off w H.out
    have HR := Lib.hid fun w => rnum_any conv soft seq size opn zone off w H.out
    rw [ok_yes hok] at HB
    clear hok hn
    generalize zoneOf conv seq size n = zn at *
    generalize offOf seq size n = on at *
    generalize isB seq size n = b at *
    generalize num conv seq size zone off = m at *
    go_enter Try.func4, Try.ntmps4
    go_wp2_with fail
    generalize World.alloc _ _ = w0 at H0 ⊢
    refine (awake3_any _).mono ?_
    rintro e w1 ⟨rfl, hb⟩
    have h1 := Two.below H0.out hb
    clear H0 hb
    obtain ⟨c0, c1, c2, c3, c4, d0, d1, hlt, hbl⟩ := id h1
    go_wp2_with fail
    refine (HB.out _).mono ?_
    rintro e w2 ⟨rfl, hb⟩
    have h2 := Two.below h1 hb
    clear c0 c1 c2 c3 c4 d0 d1 hlt hbl h1 hb
    obtain ⟨c0, c1, c2, c3, c4, d0, d1, hlt, hbl⟩ := id h2
    go_wp2_with fail
    refine (HAt.out _).mono ?_
    rintro e w3 ⟨rfl, hb⟩
    have h3 := Two.below h2 hb
    clear c0 c1 c2 c3 c4 d0 d1 hlt hbl h2 hb
    have hx := LiesAt.new w3 zn on 30 (0, 0)
    have h4 := Two.below h3 ((Below.refl _ _).alloc (Nat.le_refl _) (.cells #[.int .i64 zn, .int .i64 on] 30))
    obtain ⟨c0, c1, c2, c3, c4, d0, d1, hlt, hbl⟩ := id h3
    clear h3
    go_wp2_with fail
    generalize World.alloc _ _ = w4 at hx h4 ⊢
    generalize w3.heap.size = bx at hx ⊢
    clear c0 c1 c2 c3 c4 d0 d1 hlt hbl
    refine (HRt.out _).mono ?_
    rintro e w5 ⟨rfl, hb⟩
    have h5 := Two.below h4 hb
    have hx5 := hx.below hb
    clear hx h4 hb
    have hb6 := (Below.refl w5.heap.size w5).alloc (Nat.le_refl _) (.cells #[.int .i64 zn, .int .i64 on] 30)
    have hy := LiesAt.new w5 zn on 30 (0, 0)
    have h6 := Two.below h5 hb6
    have hx6 := hx5.below hb6
    obtain ⟨c0, c1, c2, c3, c4, d0, d1, hlt, hbl⟩ := id h5
    clear h5 hx5 hb6
    go_wp2_with fail
    generalize World.alloc _ _ = w6 at hx6 h6 hy ⊢
    generalize w5.heap.size = bY at hy ⊢
    have hS := Lib.hid (show Two w w6.drew conv soft seq size opn zone off ∧ LiesAt w6.drew bx zn on ∧ LiesAt w6.drew bY zn on from ⟨h6.drew, hx6, hy⟩)
    clear c0 c1 c2 c3 c4 d0 d1 hlt hbl hx6 h6 hy
    refine wp_region_class (fun w' => Two w w' conv soft seq size opn zone off ∧ LiesAt w' bx zn on ∧ LiesAt w' bY zn on) (by kernel_rfl) (by kernel_rfl) hS.out ?_
    intro X hX f hf hg
    have c0 := fun x => (hf x).1.1
    have c1 := fun x => (hf x).1.2.1
    have c2 := fun x => (hf x).1.2.2.1
    have c3 := fun x => (hf x).1.2.2.2.1
    have c4 := fun x => (hf x).1.2.2.2.2.1
    have d0 := fun x => (hf x).1.2.2.2.2.2.1
    have d1 := fun x => (hf x).1.2.2.2.2.2.2.1
    have e0 := fun x => (hf x).2.1.1
    have e1 := fun x => (hf x).2.1.2.1
    have f0 := fun x => (hf x).2.2.1
    have f1 := fun x => (hf x).2.2.2.1
    have Hf := Lib.hid hf
    have Hg := Lib.hid hg
    clear hf hg
    repeat (go_big_quiet_step (first | (go_at_call 20; exact calls_class (HN.out _) (fun _ hb => Hg.out _ (⟨(Hf.out _).1.below hb, (Hf.out _).2.1.below hb, (Hf.out _).2.2.below hb⟩))) | (go_at_call 21; exact calls_class (HR.out _) (fun _ hb => Hg.out _ (⟨(Hf.out _).1.below hb, (Hf.out _).2.1.below hb, (Hf.out _).2.2.below hb⟩)))))
    refine wpQuiet_nil ?_
    rintro _ ⟨z, rfl⟩
    have hz := Hf.out z
    clear c0 c1 c2 c3 c4 d0 d1 e0 e1 f0 f1 Hf Hg
    generalize f z = wz at hz ⊢
    clear z f hX
    go_wp2
    go_ret
    exact ⟨rfl, hz.1.2.2.2.2.2.2.2.2⟩
  · rw [ok_no hok] at HB
    clear hok
    go_enter Try.func4, Try.ntmps4
    go_wp2_with fail
    generalize World.alloc _ _ = w0 at H0 ⊢
    refine (awake3_any _).mono ?_
    rintro e w1 ⟨rfl, hb⟩
    have h1 := Two.below H0.out hb
    clear H0 hb
    obtain ⟨c0, c1, c2, c3, c4, d0, d1, hlt, hbl⟩ := id h1
    go_wp2_with fail
    refine (HB.out _).mono ?_
    rintro e w2 ⟨rfl, hb⟩
    have h2 := Two.below h1 hb
    clear c0 c1 c2 c3 c4 d0 d1 hlt hbl h1 hb
    obtain ⟨c0, c1, c2, c3, c4, d0, d1, hlt, hbl⟩ := id h2
    go_wp2_with fail
    clear c0 c1 c2 c3 c4 d0 d1 hlt hbl
    refine (awake3_any _).mono ?_
    rintro e w3 ⟨rfl, hb⟩
    have h3 := Two.below h2 hb
    go_wp2
    go_ret
    exact ⟨rfl, h3.2.2.2.2.2.2.2.2⟩

theorem open_place {H : Type} {enc : TypeId × Value → H} {w : World} {base b0 : Nat} {r : Reach} {sp : Nat → Bool} {held : Bool} {v : Value} {d : DataW H} {ps : List MemPlace}
    (hu : Value.okWide Try.prog w r b0 30 v) (h : DataW.Trod enc Try.prog w base sp held 30 v d ps) :
    ∃ zone off : Int, v = .agg #[.int .i64 zone, .int .i64 off] := by
  obtain ⟨cs, rfl, hs⟩ := has_agg (s := .pair 1 (.int .i64) (.pair 1 (.int .i64) .nil)) 3 (by kernel_rfl) h hu (.inl ⟨_, Try.underlying30⟩)
  obtain ⟨_, _, rfl, _, ⟨zone, rfl, _⟩, _, _, rfl, _, ⟨off, rfl, _⟩, rfl⟩ := hs
  exact ⟨zone, off, rfl⟩
end Go.Proofs.Ytcpnbdncdkcklaa

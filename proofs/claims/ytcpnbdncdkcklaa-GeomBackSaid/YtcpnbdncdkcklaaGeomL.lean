/-
  The walks of the laws GeomRights, GeomRooms.
-/
import Derived.Test.YtcpnbdncdkcklaaGeomG
import Derived.Test.YtcpnbdncdkcklaaOpen
namespace Go.Proofs.Ytcpnbdncdkcklaa
open Go.RowKit Geom
set_option linter.unusedVariables false

theorem wf_i64 {x : Int} (h : (Lit.int .i64 x).wf = true) : -9223372036854775808 ≤ x ∧ x < 9223372036854775808 := by
  simp [Lit.wf, IntKind.min, IntKind.max, IntKind.signed, IntKind.bits] at h
  omega
theorem One.drew {w w' : World} {conv soft seq size opn : Int} (h : One w w' conv soft seq size opn) : One w w'.drew conv soft seq size opn := ⟨h.1.drew, h.2.drew⟩
theorem One.new (w : World) (conv soft seq size opn : Int) (T : TypeId) : One w (w.alloc (.cells #[.int .i64 conv, .int .i64 soft, .int .i64 seq, .int .i64 size, .int .i64 opn] T)) conv soft seq size opn :=
  ⟨Lies.new w conv soft seq size opn T (0, 0), (Below.refl _ _).alloc (Nat.le_refl _) _⟩

set_option maxRecDepth 100000 in
set_option maxHeartbeats 4000000 in
theorem law_rights (conv soft seq size opn zone : Int) (w : World) (k : seq < 9223372036854775808) :
    Calls Try.prog 3 #[.agg #[.int .i64 conv, .int .i64 soft, .int .i64 seq, .int .i64 size, .int .i64 opn], .int .i64 zone] w fun e w' => e = .returned (.bool true) ∧ Below w.heap.size w w' := by
  have H0 := Lib.hid (One.new w conv soft seq size opn 23).drew
  have HA := Lib.hid fun w => right_any conv soft seq size opn w k
  have HB := Lib.hid fun w => rright_any conv soft seq size opn w
  clear k
  by_cases hok : Ok conv soft seq size opn
  · have H := Lib.hid hok.some
    obtain ⟨q1, q2, q3, q4, q5⟩ := hok.some
    rw [ok_yes hok] at HA HB
    clear hok
    go_enter Try.func3, Try.ntmps3
    go_wp2
    refine wp_region_class (fun w' => One w w' conv soft seq size opn) (by kernel_rfl) (by kernel_rfl) H0.out ?_
    intro X hX f hf hg
    have c0 := fun x => (hf x).1.1
    have c1 := fun x => (hf x).1.2.1
    have c2 := fun x => (hf x).1.2.2.1
    have c3 := fun x => (hf x).1.2.2.2.1
    have c4 := fun x => (hf x).1.2.2.2.2.1
    have Hf := Lib.hid hf
    have Hg := Lib.hid hg
    clear hf hg
    repeat (go_big_quiet_step (first | (go_at_call 7; exact calls_class (awake3_any _) (fun _ hb => Hg.out _ ((Hf.out _).below hb))) | (go_at_call 8; exact calls_class (HA.out _) (fun _ hb => Hg.out _ ((Hf.out _).below hb))) | (go_at_call 9; exact calls_class (HB.out _) (fun _ hb => Hg.out _ ((Hf.out _).below hb)))))
    refine wpQuiet_nil ?_
    rintro _ ⟨x, rfl⟩
    have hx := Hf.out x
    clear c0 c1 c2 c3 c4 Hf Hg
    generalize f x = wx at hx ⊢
    clear x f hX
    clear H0
    obtain ⟨c0, c1, c2, c3, c4, hlt⟩ := id hx.1
    go_wp2_with fail
    refine (HB.out _).mono ?_
    rintro e w1 ⟨rfl, hb⟩
    have hx1 := Lib.hid (One.below hx hb).drew
    clear c0 c1 c2 c3 c4 hlt hb hx
    have hq := IntWalk.i64_in (conv + seq) (by omega)
    go_wp2_with fail
    refine wp_region_class (fun w' => One w w' conv soft seq size opn) (by kernel_rfl) (by kernel_rfl) hx1.out ?_
    intro X hX f hf hg
    have c0 := fun x => (hf x).1.1
    have c1 := fun x => (hf x).1.2.1
    have c2 := fun x => (hf x).1.2.2.1
    have c3 := fun x => (hf x).1.2.2.2.1
    have c4 := fun x => (hf x).1.2.2.2.2.1
    have Hf := Lib.hid hf
    have Hg := Lib.hid hg
    clear hf hg
    repeat (go_big_quiet_step (first | (go_at_call 10; exact calls_class (blocks_any _ _ _ _ _ _ H.out) (fun _ hb => Hg.out _ ((Hf.out _).below hb))) | (go_at_call 11; exact calls_class (rblocks_any _ _ _ _ _ _ H.out) (fun _ hb => Hg.out _ ((Hf.out _).below hb))) | (go_at_call 12; exact calls_class (pages_any _ _ _ _ _ _ H.out) (fun _ hb => Hg.out _ ((Hf.out _).below hb))) | (go_at_call 13; exact calls_class (rpages_any _ _ _ _ _ _ H.out) (fun _ hb => Hg.out _ ((Hf.out _).below hb))) | (go_at_call 14; exact calls_class (most_any _ _ _ _ _ _ H.out) (fun _ hb => Hg.out _ ((Hf.out _).below hb))) | (go_at_call 15; exact calls_class (zones_any _ _ _ _ _ _ H.out) (fun _ hb => Hg.out _ ((Hf.out _).below hb))) | (go_at_call 16; exact calls_class (sectors_any _ _ _ _ _ _ _ H.out) (fun _ hb => Hg.out _ ((Hf.out _).below hb))) | (go_at_call 17; exact calls_class (rsectors_any _ _ _ _ _ _ _ H.out) (fun _ hb => Hg.out _ ((Hf.out _).below hb)))))
    refine wpQuiet_nil ?_
    rintro _ ⟨y, rfl⟩
    have hy := Hf.out y
    clear c0 c1 c2 c3 c4 Hf Hg
    generalize f y = wy at hy ⊢
    clear y f hX
    clear hq
    go_wp2
    go_ret
    exact ⟨rfl, hy.2⟩
  · rw [ok_no hok] at HA HB
    clear hok
    go_enter Try.func3, Try.ntmps3
    go_wp2
    refine wp_region_class (fun w' => One w w' conv soft seq size opn) (by kernel_rfl) (by kernel_rfl) H0.out ?_
    intro X hX f hf hg
    have c0 := fun x => (hf x).1.1
    have c1 := fun x => (hf x).1.2.1
    have c2 := fun x => (hf x).1.2.2.1
    have c3 := fun x => (hf x).1.2.2.2.1
    have c4 := fun x => (hf x).1.2.2.2.2.1
    have Hf := Lib.hid hf
    have Hg := Lib.hid hg
    clear hf hg
    repeat (go_big_quiet_step (first | (go_at_call 7; exact calls_class (awake3_any _) (fun _ hb => Hg.out _ ((Hf.out _).below hb))) | (go_at_call 8; exact calls_class (HA.out _) (fun _ hb => Hg.out _ ((Hf.out _).below hb))) | (go_at_call 9; exact calls_class (HB.out _) (fun _ hb => Hg.out _ ((Hf.out _).below hb)))))
    refine wpQuiet_nil ?_
    rintro _ ⟨x, rfl⟩
    have hx := Hf.out x
    clear c0 c1 c2 c3 c4 Hf Hg
    generalize f x = wx at hx ⊢
    clear x f hX
    clear H0
    obtain ⟨c0, c1, c2, c3, c4, hlt⟩ := id hx.1
    go_wp2_with fail
    refine (HB.out _).mono ?_
    rintro e w1 ⟨rfl, hb⟩
    have hx1 := Lib.hid (One.below hx hb)
    clear c0 c1 c2 c3 c4 hlt hb hx
    go_wp2
    go_ret
    exact ⟨rfl, hx1.out.2⟩

set_option maxRecDepth 100000 in
set_option maxHeartbeats 4000000 in
theorem law_rooms (conv soft seq size opn : Int) (w : World) (k : seq < 9223372036854775808) :
    Calls Try.prog 6 #[.agg #[.int .i64 conv, .int .i64 soft, .int .i64 seq, .int .i64 size, .int .i64 opn]] w fun e w' => e = .returned (.bool true) ∧ Below w.heap.size w w' := by
  have H0 := Lib.hid (One.new w conv soft seq size opn 23)
  have HA := Lib.hid fun w => right_any conv soft seq size opn w k
  clear k
  by_cases hok : Ok conv soft seq size opn
  · have H := Lib.hid hok.some
    have hsoft : pages seq size + 3 ≤ soft := hok.2.2.2.2.2.2.1
    have hb := blocks_bd hok.some
    have hr := rooms hok.some
    have hs := seats_bd hok.some
    have hp := pages_bd hok.some
    have hpb : pages seq size = (blocks seq size + 9) / 10 := rfl
    have HBl := Lib.hid fun w => blocks_any conv soft seq size opn w H.out
    have HPa := Lib.hid fun w => pages_any conv soft seq size opn w H.out
    rw [ok_yes hok] at HA
    obtain ⟨q1, q2, q3, q4, q5⟩ := hok.some
    clear hok
    generalize pages seq size = p at *
    generalize blocks seq size = b at *
    obtain ⟨b0, b1⟩ := hb
    obtain ⟨s0, s1⟩ := hs
    obtain ⟨p0, p1⟩ := hp
    have t1 : b ≤ p * 10 := by omega
    have t2 : (p - 1) * 10 < b := by omega
    have t3 : size / 2 + 1 ≤ size := by omega
    have t4 : 0 < b := by omega
    have x1 := IntWalk.i64_in (p + 3) (by omega)
    have x2 := IntWalk.i64_in (p * 10) (by omega)
    have x3 := IntWalk.i64_in (p - 1) (by omega)
    have x4 := IntWalk.i64_in ((p - 1) * 10) (by omega)
    have x5 := IntWalk.i64_in (seq * size) (by omega)
    have x6 := IntWalk.i64_in (2 * b) (by omega)
    have x7 := IntWalk.i64_in (size / 2 + 1) (by omega)
    clear hpb
    go_enter Try.func6, Try.ntmps6
    go_wp2_with fail
    generalize World.alloc _ _ = w0 at H0 ⊢
    refine (awake3_any _).mono ?_
    rintro e w1 ⟨rfl, hb⟩
    have hx := One.below H0.out hb
    clear H0 hb
    obtain ⟨c0, c1, c2, c3, c4, hlt⟩ := id hx.1
    go_wp2_with fail
    refine (HA.out _).mono ?_
    rintro e w2 ⟨rfl, hb⟩
    have hx1 := Lib.hid (One.below hx hb).drew
    clear c0 c1 c2 c3 c4 hlt hb hx
    go_wp2_with fail
    refine wp_region_class (fun w' => One w w' conv soft seq size opn) (by kernel_rfl) (by kernel_rfl) hx1.out ?_
    intro X hX f hf hg
    have c0 := fun x => (hf x).1.1
    have c1 := fun x => (hf x).1.2.1
    have c2 := fun x => (hf x).1.2.2.1
    have c3 := fun x => (hf x).1.2.2.2.1
    have c4 := fun x => (hf x).1.2.2.2.2.1
    have Hf := Lib.hid hf
    have Hg := Lib.hid hg
    clear hf hg
    repeat (go_big_quiet_step (first | (go_at_call 10; exact calls_class (HBl.out _) (fun _ hb => Hg.out _ ((Hf.out _).below hb))) | (go_at_call 12; exact calls_class (HPa.out _) (fun _ hb => Hg.out _ ((Hf.out _).below hb))) | (go_at_call 14; exact calls_class (most_any _ _ _ _ _ _ H.out) (fun _ hb => Hg.out _ ((Hf.out _).below hb)))))
    refine wpQuiet_nil ?_
    rintro _ ⟨y, rfl⟩
    have hy := Hf.out y
    clear c0 c1 c2 c3 c4 Hf Hg
    generalize f y = wy at hy ⊢
    clear y f hX
    go_wp2
    go_ret
    exact ⟨rfl, hy.2⟩
  · rw [ok_no hok] at HA
    clear hok
    go_enter Try.func6, Try.ntmps6
    go_wp2_with fail
    generalize World.alloc _ _ = w0 at H0 ⊢
    refine (awake3_any _).mono ?_
    rintro e w1 ⟨rfl, hb⟩
    have hx := One.below H0.out hb
    clear H0 hb
    obtain ⟨c0, c1, c2, c3, c4, hlt⟩ := id hx.1
    go_wp2_with fail
    refine (HA.out _).mono ?_
    rintro e w2 ⟨rfl, hb⟩
    have hx1 := One.below hx hb
    clear c0 c1 c2 c3 c4 hlt hb hx
    go_wp2_with fail
    refine (awake3_any _).mono ?_
    rintro e w3 ⟨rfl, hb⟩
    have hx := One.below hx1 hb
    go_wp2
    go_ret
    exact ⟨rfl, hx.2⟩

theorem open_geo {H : Type} {enc : TypeId × Value → H} {w : World} {base b0 : Nat} {r : Reach} {sp : Nat → Bool} {held : Bool} {v : Value} {d : DataW H} {ps : List MemPlace}
    (hu : Value.okWide Try.prog w r b0 23 v) (h : DataW.Trod enc Try.prog w base sp held 23 v d ps) :
    ∃ conv soft seq size opn : Int, v = .agg #[.int .i64 conv, .int .i64 soft, .int .i64 seq, .int .i64 size, .int .i64 opn] ∧ seq < 9223372036854775808 := by
  obtain ⟨cs, rfl, hs⟩ := has_agg (s := .pair 1 (.int .i64) (.pair 1 (.int .i64) (.pair 1 (.int .i64) (.pair 1 (.int .i64) (.pair 1 (.int .i64) .nil))))) 3 (by kernel_rfl) h hu (.inl ⟨_, Try.underlying23⟩)
  obtain ⟨_, _, rfl, _, ⟨conv, rfl, _⟩, _, _, rfl, _, ⟨soft, rfl, _⟩, _, _, rfl, _, ⟨seq, rfl, hw⟩, _, _, rfl, _, ⟨size, rfl, _⟩, _, _, rfl, _, ⟨opn, rfl, _⟩, rfl⟩ := hs
  exact ⟨conv, soft, seq, size, opn, rfl, (wf_i64 hw).2⟩
end Go.Proofs.Ytcpnbdncdkcklaa

/-
  The law Orders of layer 16.
-/
import Derived.Test.YtndjjgabfmplcaaPiG
namespace Go.Proofs.Ytndjjgabfmplcaa
open Go.RowKit Pick
set_option linter.unusedVariables false

/-- three candidates in variables of their own -/
structure ThreeK (W w : World) (x y z : Nat) (ka kb kc : Cd) : Prop where
  a : Box w x 23 (kcs ka)
  b : Box w y 23 (kcs kb)
  c : Box w z 23 (kcs kc)
  bl : Below W.heap.size W w
theorem ThreeK.on {W w w' : World} {x y z : Nat} {a b c : Cd} (h : ThreeK W w x y z a b c) (hb : Below w.heap.size w w') : ThreeK W w' x y z a b c := ⟨h.a.on hb, h.b.on hb, h.c.on hb, h.bl.trans (hb.mono h.bl.size)⟩
theorem ThreeK.drew {W w : World} {x y z : Nat} {a b c : Cd} (h : ThreeK W w x y z a b c) : ThreeK W w.drew x y z a b c := ⟨h.a.same rfl, h.b.same rfl, h.c.same rfl, h.bl.drew⟩
theorem ThreeK.new (w : World) (a b c : Cd) : ThreeK w (((w.alloc (.cells (kcs a).toArray 23)).alloc (.cells (kcs b).toArray 23)).alloc (.cells (kcs c).toArray 23)) w.heap.size (w.heap.size + 1) (w.heap.size + 2) a b c := by
  have h := TwoK.new w a b
  generalize hw : (w.alloc (.cells (kcs a).toArray 23)).alloc (.cells (kcs b).toArray 23) = w2 at h
  have e : w2.heap.size = w.heap.size + 2 := by rw [← hw]; simp
  have h3 := Box.new w2 23 (kcs c)
  rw [e] at h3
  have hb := (Below.refl w2.heap.size w2).alloc (Nat.le_refl _) (.cells (kcs c).toArray 23)
  exact ⟨h.1.on hb, h.2.1.on hb, h3, h.2.2.trans (hb.mono h.2.2.size)⟩
set_option maxRecDepth 100000 in
set_option maxHeartbeats 40000000 in
theorem pilaw_orders (a b c : Cd) (n p : Int) (w : World) (hn : 0 ≤ n ∧ n ≤ 255) :
    Calls Try.prog 6 #[.agg (kcs a).toArray, .agg (kcs b).toArray, .agg (kcs c).toArray, .int .u8 n, .int .i64 p] w fun e w' => e = .returned (.bool true) ∧ Below w.heap.size w w' := by
  obtain ⟨az, al, aa⟩ := a
  obtain ⟨bz, bl, ba⟩ := b
  obtain ⟨cz, cl, ca⟩ := c
  have HT := Lib.hid (ThreeK.new w ⟨az, al, aa⟩ ⟨bz, bl, ba⟩ ⟨cz, cl, ca⟩)
  have QW := Lib.hid fun w' => awake16_any w'
  have HSz : Hid (∀ w, Calls Try.prog 9 #[.int .u8 n] w fun e w' => e = .returned (.int .i64 (1 + n)) ∧ w = w') := Lib.hid fun w => size_any n w hn
  have HMa : Hid (∀ w, Calls Try.prog 8 #[kv az al aa, .int .i64 (1 + n)] w fun e w' => e = .returned (.bool (decide (May (1 + n) ⟨az, al, aa⟩))) ∧ Below w.heap.size w w') := Lib.hid fun w => rmay_any _ ⟨az, al, aa⟩ w
  have HMb : Hid (∀ w, Calls Try.prog 8 #[kv bz bl ba, .int .i64 (1 + n)] w fun e w' => e = .returned (.bool (decide (May (1 + n) ⟨bz, bl, ba⟩))) ∧ Below w.heap.size w w') := Lib.hid fun w => rmay_any _ ⟨bz, bl, ba⟩ w
  have HMc : Hid (∀ w, Calls Try.prog 8 #[kv cz cl ca, .int .i64 (1 + n)] w fun e w' => e = .returned (.bool (decide (May (1 + n) ⟨cz, cl, ca⟩))) ∧ Below w.heap.size w w') := Lib.hid fun w => rmay_any _ ⟨cz, cl, ca⟩ w
  by_cases hma : May (1 + n) ⟨az, al, aa⟩
  · rw [decide_eq_true hma] at HMa
    by_cases hmb : May (1 + n) ⟨bz, bl, ba⟩
    · rw [decide_eq_true hmb] at HMb
      by_cases hmc : May (1 + n) ⟨cz, cl, ca⟩
      · rw [decide_eq_true hmc] at HMc
        have HAA : Hid (∀ w, Calls Try.prog 10 #[kv az al aa, kv az al aa, .int .i64 (1 + n), .int .i64 p] w fun e w' => e = .returned (.bool (decide (Bet (1 + n) p ⟨az, al, aa⟩ ⟨az, al, aa⟩))) ∧ Below w.heap.size w w') := Lib.hid fun w => pbetter_any _ p ⟨az, al, aa⟩ ⟨az, al, aa⟩ w (size_size hn) hma hma
        have HAB : Hid (∀ w, Calls Try.prog 10 #[kv az al aa, kv bz bl ba, .int .i64 (1 + n), .int .i64 p] w fun e w' => e = .returned (.bool (decide (Bet (1 + n) p ⟨az, al, aa⟩ ⟨bz, bl, ba⟩))) ∧ Below w.heap.size w w') := Lib.hid fun w => pbetter_any _ p ⟨az, al, aa⟩ ⟨bz, bl, ba⟩ w (size_size hn) hma hmb
        have HBA : Hid (∀ w, Calls Try.prog 10 #[kv bz bl ba, kv az al aa, .int .i64 (1 + n), .int .i64 p] w fun e w' => e = .returned (.bool (decide (Bet (1 + n) p ⟨bz, bl, ba⟩ ⟨az, al, aa⟩))) ∧ Below w.heap.size w w') := Lib.hid fun w => pbetter_any _ p ⟨bz, bl, ba⟩ ⟨az, al, aa⟩ w (size_size hn) hmb hma
        have HBC : Hid (∀ w, Calls Try.prog 10 #[kv bz bl ba, kv cz cl ca, .int .i64 (1 + n), .int .i64 p] w fun e w' => e = .returned (.bool (decide (Bet (1 + n) p ⟨bz, bl, ba⟩ ⟨cz, cl, ca⟩))) ∧ Below w.heap.size w w') := Lib.hid fun w => pbetter_any _ p ⟨bz, bl, ba⟩ ⟨cz, cl, ca⟩ w (size_size hn) hmb hmc
        have HAC : Hid (∀ w, Calls Try.prog 10 #[kv az al aa, kv cz cl ca, .int .i64 (1 + n), .int .i64 p] w fun e w' => e = .returned (.bool (decide (Bet (1 + n) p ⟨az, al, aa⟩ ⟨cz, cl, ca⟩))) ∧ Below w.heap.size w w') := Lib.hid fun w => pbetter_any _ p ⟨az, al, aa⟩ ⟨cz, cl, ca⟩ w (size_size hn) hma hmc
        rw [decide_eq_false (bet_irrefl _ _ _)] at HAA
        go_enter Try.func6, Try.ntmps6
        go_wp2_with fail
        generalize World.alloc _ _ = w0 at HT ⊢
        refine (HSz.out _).mono ?_
        rintro e ws ⟨rfl, rfl⟩
        obtain ⟨a0, a1, a2⟩ := HT.out.a.kd
        obtain ⟨b0, b1, b2⟩ := HT.out.b.kd
        obtain ⟨c0, c1, c2⟩ := HT.out.c.kd
        go_wp2_with fail
        refine (QW.out _).mono ?_
        rintro e w1 ⟨rfl, hb⟩
        replace HT := Lib.hid (HT.out.on hb)
        clear hb
        clear a0 a1 a2 b0 b1 b2 c0 c1 c2
        obtain ⟨a0, a1, a2⟩ := HT.out.a.kd
        obtain ⟨b0, b1, b2⟩ := HT.out.b.kd
        obtain ⟨c0, c1, c2⟩ := HT.out.c.kd
        go_wp2_with fail
        refine (HMa.out _).mono ?_
        rintro e m0 ⟨rfl, hb⟩
        replace HT := Lib.hid (HT.out.on hb)
        clear hb
        clear a0 a1 a2 b0 b1 b2 c0 c1 c2
        obtain ⟨a0, a1, a2⟩ := HT.out.a.kd
        obtain ⟨b0, b1, b2⟩ := HT.out.b.kd
        obtain ⟨c0, c1, c2⟩ := HT.out.c.kd
        go_wp2_with fail
        refine (HMb.out _).mono ?_
        rintro e m1 ⟨rfl, hb⟩
        replace HT := Lib.hid (HT.out.on hb)
        clear hb
        clear a0 a1 a2 b0 b1 b2 c0 c1 c2
        obtain ⟨a0, a1, a2⟩ := HT.out.a.kd
        obtain ⟨b0, b1, b2⟩ := HT.out.b.kd
        obtain ⟨c0, c1, c2⟩ := HT.out.c.kd
        go_wp2_with fail
        refine (HMc.out _).mono ?_
        rintro e m2 ⟨rfl, hb⟩
        replace HT := Lib.hid (HT.out.on hb)
        clear hb
        clear a0 a1 a2 b0 b1 b2 c0 c1 c2
        obtain ⟨a0, a1, a2⟩ := HT.out.a.kd
        obtain ⟨b0, b1, b2⟩ := HT.out.b.kd
        obtain ⟨c0, c1, c2⟩ := HT.out.c.kd
        by_cases hab : Bet (1 + n) p ⟨az, al, aa⟩ ⟨bz, bl, ba⟩
        · have hba := bet_anti hab
          rw [decide_eq_true hab] at HAB
          rw [decide_eq_false hba] at HBA
          by_cases hz : az = bz
          · have hq : (az != bz) = false := by simp [hz]
            clear hz
            go_wp2_with fail
            clear a0 a1 a2 b0 b1 b2 c0 c1 c2
            refine wp_region_class (fun w' => ThreeK w w' w.heap.size (w.heap.size + 1) (w.heap.size + 2) ⟨az, al, aa⟩ ⟨bz, bl, ba⟩ ⟨cz, cl, ca⟩) (by kernel_rfl) (by kernel_rfl) HT.out.drew ?_
            intro X hX f hf hg
            have a0 : ∀ x, (f x).cell? ⟨w.heap.size, 0, none⟩ = some (.int .i64 az) := fun x => (hf x).a.kd.1
            have a1 : ∀ x, (f x).cell? ⟨w.heap.size, 1, none⟩ = some (.int .i64 al) := fun x => (hf x).a.kd.2.1
            have a2 : ∀ x, (f x).cell? ⟨w.heap.size, 2, none⟩ = some (.int .i64 aa) := fun x => (hf x).a.kd.2.2
            have b0 : ∀ x, (f x).cell? ⟨w.heap.size + 1, 0, none⟩ = some (.int .i64 bz) := fun x => (hf x).b.kd.1
            have b1 : ∀ x, (f x).cell? ⟨w.heap.size + 1, 1, none⟩ = some (.int .i64 bl) := fun x => (hf x).b.kd.2.1
            have b2 : ∀ x, (f x).cell? ⟨w.heap.size + 1, 2, none⟩ = some (.int .i64 ba) := fun x => (hf x).b.kd.2.2
            have Hf := Lib.hid hf
            have Hg := Lib.hid hg
            clear hf hg
            repeat (go_big_quiet_step (first
              | (go_at_call 10; with_reducible (exact calls_class (HAA.out _) (fun _ hb => Hg.out _ ((Hf.out _).on hb))))))
            refine wpQuiet_nil ?_
            rintro _ ⟨x, rfl⟩
            have HT := Lib.hid (Hf.out x)
            clear a0 a1 a2 b0 b1 b2 Hf Hg
            generalize f x = w4 at HT ⊢
            clear x f hX
            obtain ⟨a0, a1, a2⟩ := HT.out.a.kd
            obtain ⟨b0, b1, b2⟩ := HT.out.b.kd
            obtain ⟨c0, c1, c2⟩ := HT.out.c.kd
            go_wp2_with fail
            refine (HAB.out _).mono ?_
            rintro e w5 ⟨rfl, hb⟩
            replace HT := Lib.hid (HT.out.on hb)
            clear hb
            clear a0 a1 a2 b0 b1 b2 c0 c1 c2
            obtain ⟨a0, a1, a2⟩ := HT.out.a.kd
            obtain ⟨b0, b1, b2⟩ := HT.out.b.kd
            obtain ⟨c0, c1, c2⟩ := HT.out.c.kd
            by_cases hbc : Bet (1 + n) p ⟨bz, bl, ba⟩ ⟨cz, cl, ca⟩
            · have hac := bet_trans (size_size hn) hma.1 hmb.1 hmc.1 hab hbc
              rw [decide_eq_true hbc] at HBC
              rw [decide_eq_true hac] at HAC
              go_wp2_with fail
              refine (HBC.out _).mono ?_
              rintro e w6 ⟨rfl, hb⟩
              replace HT := Lib.hid (HT.out.on hb)
              clear hb
              clear a0 a1 a2 b0 b1 b2 c0 c1 c2
              obtain ⟨a0, a1, a2⟩ := HT.out.a.kd
              obtain ⟨b0, b1, b2⟩ := HT.out.b.kd
              obtain ⟨c0, c1, c2⟩ := HT.out.c.kd
              go_wp2_with fail
              refine (HAC.out _).mono ?_
              rintro e w7 ⟨rfl, hb⟩
              replace HT := Lib.hid (HT.out.on hb)
              clear hb
              clear a0 a1 a2 b0 b1 b2 c0 c1 c2
              obtain ⟨a0, a1, a2⟩ := HT.out.a.kd
              obtain ⟨b0, b1, b2⟩ := HT.out.b.kd
              obtain ⟨c0, c1, c2⟩ := HT.out.c.kd
              go_wp2
              go_ret
              exact ⟨rfl, HT.out.bl⟩
            · rw [decide_eq_false hbc] at HBC
              go_wp2_with fail
              refine (HBC.out _).mono ?_
              rintro e w6 ⟨rfl, hb⟩
              replace HT := Lib.hid (HT.out.on hb)
              clear hb
              clear a0 a1 a2 b0 b1 b2 c0 c1 c2
              obtain ⟨a0, a1, a2⟩ := HT.out.a.kd
              obtain ⟨b0, b1, b2⟩ := HT.out.b.kd
              obtain ⟨c0, c1, c2⟩ := HT.out.c.kd
              go_wp2
              go_ret
              exact ⟨rfl, HT.out.bl⟩
          · have hq : (az != bz) = true := by simp [hz]
            clear hz
            go_wp2_with fail
            clear a0 a1 a2 b0 b1 b2 c0 c1 c2
            refine wp_region_class (fun w' => ThreeK w w' w.heap.size (w.heap.size + 1) (w.heap.size + 2) ⟨az, al, aa⟩ ⟨bz, bl, ba⟩ ⟨cz, cl, ca⟩) (by kernel_rfl) (by kernel_rfl) HT.out.drew ?_
            intro X hX f hf hg
            have a0 : ∀ x, (f x).cell? ⟨w.heap.size, 0, none⟩ = some (.int .i64 az) := fun x => (hf x).a.kd.1
            have a1 : ∀ x, (f x).cell? ⟨w.heap.size, 1, none⟩ = some (.int .i64 al) := fun x => (hf x).a.kd.2.1
            have a2 : ∀ x, (f x).cell? ⟨w.heap.size, 2, none⟩ = some (.int .i64 aa) := fun x => (hf x).a.kd.2.2
            have b0 : ∀ x, (f x).cell? ⟨w.heap.size + 1, 0, none⟩ = some (.int .i64 bz) := fun x => (hf x).b.kd.1
            have b1 : ∀ x, (f x).cell? ⟨w.heap.size + 1, 1, none⟩ = some (.int .i64 bl) := fun x => (hf x).b.kd.2.1
            have b2 : ∀ x, (f x).cell? ⟨w.heap.size + 1, 2, none⟩ = some (.int .i64 ba) := fun x => (hf x).b.kd.2.2
            have Hf := Lib.hid hf
            have Hg := Lib.hid hg
            clear hf hg
            repeat (go_big_quiet_step (first
              | (go_at_call 10; with_reducible (first | (exact calls_class (HAA.out _) (fun _ hb => Hg.out _ ((Hf.out _).on hb))) | (exact calls_class (HAB.out _) (fun _ hb => Hg.out _ ((Hf.out _).on hb))) | (exact calls_class (HBA.out _) (fun _ hb => Hg.out _ ((Hf.out _).on hb)))))))
            refine wpQuiet_nil ?_
            rintro _ ⟨x, rfl⟩
            have HT := Lib.hid (Hf.out x)
            clear a0 a1 a2 b0 b1 b2 Hf Hg
            generalize f x = w4 at HT ⊢
            clear x f hX
            obtain ⟨a0, a1, a2⟩ := HT.out.a.kd
            obtain ⟨b0, b1, b2⟩ := HT.out.b.kd
            obtain ⟨c0, c1, c2⟩ := HT.out.c.kd
            go_wp2_with fail
            refine (HAB.out _).mono ?_
            rintro e w5 ⟨rfl, hb⟩
            replace HT := Lib.hid (HT.out.on hb)
            clear hb
            clear a0 a1 a2 b0 b1 b2 c0 c1 c2
            obtain ⟨a0, a1, a2⟩ := HT.out.a.kd
            obtain ⟨b0, b1, b2⟩ := HT.out.b.kd
            obtain ⟨c0, c1, c2⟩ := HT.out.c.kd
            by_cases hbc : Bet (1 + n) p ⟨bz, bl, ba⟩ ⟨cz, cl, ca⟩
            · have hac := bet_trans (size_size hn) hma.1 hmb.1 hmc.1 hab hbc
              rw [decide_eq_true hbc] at HBC
              rw [decide_eq_true hac] at HAC
              go_wp2_with fail
              refine (HBC.out _).mono ?_
              rintro e w6 ⟨rfl, hb⟩
              replace HT := Lib.hid (HT.out.on hb)
              clear hb
              clear a0 a1 a2 b0 b1 b2 c0 c1 c2
              obtain ⟨a0, a1, a2⟩ := HT.out.a.kd
              obtain ⟨b0, b1, b2⟩ := HT.out.b.kd
              obtain ⟨c0, c1, c2⟩ := HT.out.c.kd
              go_wp2_with fail
              refine (HAC.out _).mono ?_
              rintro e w7 ⟨rfl, hb⟩
              replace HT := Lib.hid (HT.out.on hb)
              clear hb
              clear a0 a1 a2 b0 b1 b2 c0 c1 c2
              obtain ⟨a0, a1, a2⟩ := HT.out.a.kd
              obtain ⟨b0, b1, b2⟩ := HT.out.b.kd
              obtain ⟨c0, c1, c2⟩ := HT.out.c.kd
              go_wp2
              go_ret
              exact ⟨rfl, HT.out.bl⟩
            · rw [decide_eq_false hbc] at HBC
              go_wp2_with fail
              refine (HBC.out _).mono ?_
              rintro e w6 ⟨rfl, hb⟩
              replace HT := Lib.hid (HT.out.on hb)
              clear hb
              clear a0 a1 a2 b0 b1 b2 c0 c1 c2
              obtain ⟨a0, a1, a2⟩ := HT.out.a.kd
              obtain ⟨b0, b1, b2⟩ := HT.out.b.kd
              obtain ⟨c0, c1, c2⟩ := HT.out.c.kd
              go_wp2
              go_ret
              exact ⟨rfl, HT.out.bl⟩
        · rw [decide_eq_false hab] at HAB
          by_cases hz : az = bz
          · have hq : (az != bz) = false := by simp [hz]
            clear hz
            go_wp2_with fail
            clear a0 a1 a2 b0 b1 b2 c0 c1 c2
            refine wp_region_class (fun w' => ThreeK w w' w.heap.size (w.heap.size + 1) (w.heap.size + 2) ⟨az, al, aa⟩ ⟨bz, bl, ba⟩ ⟨cz, cl, ca⟩) (by kernel_rfl) (by kernel_rfl) HT.out.drew ?_
            intro X hX f hf hg
            have a0 : ∀ x, (f x).cell? ⟨w.heap.size, 0, none⟩ = some (.int .i64 az) := fun x => (hf x).a.kd.1
            have a1 : ∀ x, (f x).cell? ⟨w.heap.size, 1, none⟩ = some (.int .i64 al) := fun x => (hf x).a.kd.2.1
            have a2 : ∀ x, (f x).cell? ⟨w.heap.size, 2, none⟩ = some (.int .i64 aa) := fun x => (hf x).a.kd.2.2
            have b0 : ∀ x, (f x).cell? ⟨w.heap.size + 1, 0, none⟩ = some (.int .i64 bz) := fun x => (hf x).b.kd.1
            have b1 : ∀ x, (f x).cell? ⟨w.heap.size + 1, 1, none⟩ = some (.int .i64 bl) := fun x => (hf x).b.kd.2.1
            have b2 : ∀ x, (f x).cell? ⟨w.heap.size + 1, 2, none⟩ = some (.int .i64 ba) := fun x => (hf x).b.kd.2.2
            have Hf := Lib.hid hf
            have Hg := Lib.hid hg
            clear hf hg
            repeat (go_big_quiet_step (first
              | (go_at_call 10; with_reducible (exact calls_class (HAA.out _) (fun _ hb => Hg.out _ ((Hf.out _).on hb))))))
            refine wpQuiet_nil ?_
            rintro _ ⟨x, rfl⟩
            have HT := Lib.hid (Hf.out x)
            clear a0 a1 a2 b0 b1 b2 Hf Hg
            generalize f x = w4 at HT ⊢
            clear x f hX
            obtain ⟨a0, a1, a2⟩ := HT.out.a.kd
            obtain ⟨b0, b1, b2⟩ := HT.out.b.kd
            obtain ⟨c0, c1, c2⟩ := HT.out.c.kd
            go_wp2_with fail
            refine (HAB.out _).mono ?_
            rintro e w5 ⟨rfl, hb⟩
            replace HT := Lib.hid (HT.out.on hb)
            clear hb
            clear a0 a1 a2 b0 b1 b2 c0 c1 c2
            obtain ⟨a0, a1, a2⟩ := HT.out.a.kd
            obtain ⟨b0, b1, b2⟩ := HT.out.b.kd
            obtain ⟨c0, c1, c2⟩ := HT.out.c.kd
            go_wp2
            go_ret
            exact ⟨rfl, HT.out.bl⟩
          · have hq : (az != bz) = true := by simp [hz]
            have hba : Bet (1 + n) p ⟨bz, bl, ba⟩ ⟨az, al, aa⟩ := bet_some (fun h => hz h.symm) hab
            rw [decide_eq_true hba] at HBA
            clear hz
            go_wp2_with fail
            clear a0 a1 a2 b0 b1 b2 c0 c1 c2
            refine wp_region_class (fun w' => ThreeK w w' w.heap.size (w.heap.size + 1) (w.heap.size + 2) ⟨az, al, aa⟩ ⟨bz, bl, ba⟩ ⟨cz, cl, ca⟩) (by kernel_rfl) (by kernel_rfl) HT.out.drew ?_
            intro X hX f hf hg
            have a0 : ∀ x, (f x).cell? ⟨w.heap.size, 0, none⟩ = some (.int .i64 az) := fun x => (hf x).a.kd.1
            have a1 : ∀ x, (f x).cell? ⟨w.heap.size, 1, none⟩ = some (.int .i64 al) := fun x => (hf x).a.kd.2.1
            have a2 : ∀ x, (f x).cell? ⟨w.heap.size, 2, none⟩ = some (.int .i64 aa) := fun x => (hf x).a.kd.2.2
            have b0 : ∀ x, (f x).cell? ⟨w.heap.size + 1, 0, none⟩ = some (.int .i64 bz) := fun x => (hf x).b.kd.1
            have b1 : ∀ x, (f x).cell? ⟨w.heap.size + 1, 1, none⟩ = some (.int .i64 bl) := fun x => (hf x).b.kd.2.1
            have b2 : ∀ x, (f x).cell? ⟨w.heap.size + 1, 2, none⟩ = some (.int .i64 ba) := fun x => (hf x).b.kd.2.2
            have Hf := Lib.hid hf
            have Hg := Lib.hid hg
            clear hf hg
            repeat (go_big_quiet_step (first
              | (go_at_call 10; with_reducible (first | (exact calls_class (HAA.out _) (fun _ hb => Hg.out _ ((Hf.out _).on hb))) | (exact calls_class (HAB.out _) (fun _ hb => Hg.out _ ((Hf.out _).on hb))) | (exact calls_class (HBA.out _) (fun _ hb => Hg.out _ ((Hf.out _).on hb)))))))
            refine wpQuiet_nil ?_
            rintro _ ⟨x, rfl⟩
            have HT := Lib.hid (Hf.out x)
            clear a0 a1 a2 b0 b1 b2 Hf Hg
            generalize f x = w4 at HT ⊢
            clear x f hX
            obtain ⟨a0, a1, a2⟩ := HT.out.a.kd
            obtain ⟨b0, b1, b2⟩ := HT.out.b.kd
            obtain ⟨c0, c1, c2⟩ := HT.out.c.kd
            go_wp2_with fail
            refine (HAB.out _).mono ?_
            rintro e w5 ⟨rfl, hb⟩
            replace HT := Lib.hid (HT.out.on hb)
            clear hb
            clear a0 a1 a2 b0 b1 b2 c0 c1 c2
            obtain ⟨a0, a1, a2⟩ := HT.out.a.kd
            obtain ⟨b0, b1, b2⟩ := HT.out.b.kd
            obtain ⟨c0, c1, c2⟩ := HT.out.c.kd
            go_wp2
            go_ret
            exact ⟨rfl, HT.out.bl⟩
      · rw [decide_eq_false hmc] at HMc
        go_enter Try.func6, Try.ntmps6
        go_wp2_with fail
        generalize World.alloc _ _ = w0 at HT ⊢
        refine (HSz.out _).mono ?_
        rintro e ws ⟨rfl, rfl⟩
        obtain ⟨a0, a1, a2⟩ := HT.out.a.kd
        obtain ⟨b0, b1, b2⟩ := HT.out.b.kd
        obtain ⟨c0, c1, c2⟩ := HT.out.c.kd
        go_wp2_with fail
        refine (QW.out _).mono ?_
        rintro e w1 ⟨rfl, hb⟩
        replace HT := Lib.hid (HT.out.on hb)
        clear hb
        clear a0 a1 a2 b0 b1 b2 c0 c1 c2
        obtain ⟨a0, a1, a2⟩ := HT.out.a.kd
        obtain ⟨b0, b1, b2⟩ := HT.out.b.kd
        obtain ⟨c0, c1, c2⟩ := HT.out.c.kd
        go_wp2_with fail
        refine (HMa.out _).mono ?_
        rintro e m0 ⟨rfl, hb⟩
        replace HT := Lib.hid (HT.out.on hb)
        clear hb
        clear a0 a1 a2 b0 b1 b2 c0 c1 c2
        obtain ⟨a0, a1, a2⟩ := HT.out.a.kd
        obtain ⟨b0, b1, b2⟩ := HT.out.b.kd
        obtain ⟨c0, c1, c2⟩ := HT.out.c.kd
        go_wp2_with fail
        refine (HMb.out _).mono ?_
        rintro e m1 ⟨rfl, hb⟩
        replace HT := Lib.hid (HT.out.on hb)
        clear hb
        clear a0 a1 a2 b0 b1 b2 c0 c1 c2
        obtain ⟨a0, a1, a2⟩ := HT.out.a.kd
        obtain ⟨b0, b1, b2⟩ := HT.out.b.kd
        obtain ⟨c0, c1, c2⟩ := HT.out.c.kd
        go_wp2_with fail
        refine (HMc.out _).mono ?_
        rintro e m2 ⟨rfl, hb⟩
        replace HT := Lib.hid (HT.out.on hb)
        clear hb
        clear a0 a1 a2 b0 b1 b2 c0 c1 c2
        obtain ⟨a0, a1, a2⟩ := HT.out.a.kd
        obtain ⟨b0, b1, b2⟩ := HT.out.b.kd
        obtain ⟨c0, c1, c2⟩ := HT.out.c.kd
        go_wp2_with fail
        refine (QW.out _).mono ?_
        rintro e w9 ⟨rfl, hb⟩
        replace HT := Lib.hid (HT.out.on hb)
        clear hb
        clear a0 a1 a2 b0 b1 b2 c0 c1 c2
        obtain ⟨a0, a1, a2⟩ := HT.out.a.kd
        obtain ⟨b0, b1, b2⟩ := HT.out.b.kd
        obtain ⟨c0, c1, c2⟩ := HT.out.c.kd
        go_wp2
        go_ret
        exact ⟨rfl, HT.out.bl⟩
    · rw [decide_eq_false hmb] at HMb
      go_enter Try.func6, Try.ntmps6
      go_wp2_with fail
      generalize World.alloc _ _ = w0 at HT ⊢
      refine (HSz.out _).mono ?_
      rintro e ws ⟨rfl, rfl⟩
      obtain ⟨a0, a1, a2⟩ := HT.out.a.kd
      obtain ⟨b0, b1, b2⟩ := HT.out.b.kd
      obtain ⟨c0, c1, c2⟩ := HT.out.c.kd
      go_wp2_with fail
      refine (QW.out _).mono ?_
      rintro e w1 ⟨rfl, hb⟩
      replace HT := Lib.hid (HT.out.on hb)
      clear hb
      clear a0 a1 a2 b0 b1 b2 c0 c1 c2
      obtain ⟨a0, a1, a2⟩ := HT.out.a.kd
      obtain ⟨b0, b1, b2⟩ := HT.out.b.kd
      obtain ⟨c0, c1, c2⟩ := HT.out.c.kd
      go_wp2_with fail
      refine (HMa.out _).mono ?_
      rintro e m0 ⟨rfl, hb⟩
      replace HT := Lib.hid (HT.out.on hb)
      clear hb
      clear a0 a1 a2 b0 b1 b2 c0 c1 c2
      obtain ⟨a0, a1, a2⟩ := HT.out.a.kd
      obtain ⟨b0, b1, b2⟩ := HT.out.b.kd
      obtain ⟨c0, c1, c2⟩ := HT.out.c.kd
      go_wp2_with fail
      refine (HMb.out _).mono ?_
      rintro e m1 ⟨rfl, hb⟩
      replace HT := Lib.hid (HT.out.on hb)
      clear hb
      clear a0 a1 a2 b0 b1 b2 c0 c1 c2
      obtain ⟨a0, a1, a2⟩ := HT.out.a.kd
      obtain ⟨b0, b1, b2⟩ := HT.out.b.kd
      obtain ⟨c0, c1, c2⟩ := HT.out.c.kd
      go_wp2_with fail
      refine (QW.out _).mono ?_
      rintro e w9 ⟨rfl, hb⟩
      replace HT := Lib.hid (HT.out.on hb)
      clear hb
      clear a0 a1 a2 b0 b1 b2 c0 c1 c2
      obtain ⟨a0, a1, a2⟩ := HT.out.a.kd
      obtain ⟨b0, b1, b2⟩ := HT.out.b.kd
      obtain ⟨c0, c1, c2⟩ := HT.out.c.kd
      go_wp2
      go_ret
      exact ⟨rfl, HT.out.bl⟩
  · rw [decide_eq_false hma] at HMa
    go_enter Try.func6, Try.ntmps6
    go_wp2_with fail
    generalize World.alloc _ _ = w0 at HT ⊢
    refine (HSz.out _).mono ?_
    rintro e ws ⟨rfl, rfl⟩
    obtain ⟨a0, a1, a2⟩ := HT.out.a.kd
    obtain ⟨b0, b1, b2⟩ := HT.out.b.kd
    obtain ⟨c0, c1, c2⟩ := HT.out.c.kd
    go_wp2_with fail
    refine (QW.out _).mono ?_
    rintro e w1 ⟨rfl, hb⟩
    replace HT := Lib.hid (HT.out.on hb)
    clear hb
    clear a0 a1 a2 b0 b1 b2 c0 c1 c2
    obtain ⟨a0, a1, a2⟩ := HT.out.a.kd
    obtain ⟨b0, b1, b2⟩ := HT.out.b.kd
    obtain ⟨c0, c1, c2⟩ := HT.out.c.kd
    go_wp2_with fail
    refine (HMa.out _).mono ?_
    rintro e m0 ⟨rfl, hb⟩
    replace HT := Lib.hid (HT.out.on hb)
    clear hb
    clear a0 a1 a2 b0 b1 b2 c0 c1 c2
    obtain ⟨a0, a1, a2⟩ := HT.out.a.kd
    obtain ⟨b0, b1, b2⟩ := HT.out.b.kd
    obtain ⟨c0, c1, c2⟩ := HT.out.c.kd
    go_wp2_with fail
    refine (QW.out _).mono ?_
    rintro e w9 ⟨rfl, hb⟩
    replace HT := Lib.hid (HT.out.on hb)
    clear hb
    clear a0 a1 a2 b0 b1 b2 c0 c1 c2
    obtain ⟨a0, a1, a2⟩ := HT.out.a.kd
    obtain ⟨b0, b1, b2⟩ := HT.out.b.kd
    obtain ⟨c0, c1, c2⟩ := HT.out.c.kd
    go_wp2
    go_ret
    exact ⟨rfl, HT.out.bl⟩
end Go.Proofs.Ytndjjgabfmplcaa

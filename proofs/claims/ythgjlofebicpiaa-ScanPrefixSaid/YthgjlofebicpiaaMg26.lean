/-
  ZoneJ ZoneK
-/
import Derived.Test.YthgjlofebicpiaaMg25
import Derived.Test.YthgjlofebicpiaaMg18
import Derived.Deep.RegionHeld3
/-
  Are zones right? By the document.
-/
namespace Go.Proofs.Ythgjlofebicpiaa
open Go.RowKit Geom Zone
set_option linter.unusedVariables false

end Go.Proofs.Ythgjlofebicpiaa

/-
  Package zone: one of the zones is turned by a function that is handed over.
-/
namespace Go.Proofs.Ythgjlofebicpiaa
open Go.RowKit Geom Zone
set_option linter.unusedVariables false

set_option maxRecDepth 100000 in
set_option maxHeartbeats 4000000 in
theorem turned_any (F : FuncId) (cap2 : Array Value) (T : Bool → Z → Z × Int) (conv soft seq size opn zone : Int) (A : Option Addr) (n cap : Nat) (L : List Z) (w : World) (hm : n ≤ 1000) (hn : L.length = n) (H : Some conv seq size) (hns : (n : Int) = conv + seq) (hr : Rd w w.heap.size A (zc L))
    (hE : ∀ (args : Array Value) (w' : World), (callFunc F args).run Try.prog w' = .ok (.enter F args) w')
    (hF : ∀ (s p : Int) (b : Bool) (w' : World), Below w.heap.size w w' → Calls Try.prog F (#[.agg #[.int .i64 s, .int .i64 p], .bool b] ++ cap2) w' fun e w'' => e = .returned (.tuple #[.agg #[.int .i64 (T b (s, p)).1.1, .int .i64 (T b (s, p)).1.2], .int .i64 (T b (s, p)).2]) ∧ Below w'.heap.size w' w'') :
    Calls Try.prog 67 #[.agg #[.int .i64 conv, .int .i64 soft, .int .i64 seq, .int .i64 size, .int .i64 opn], .slice A n cap, .int .i64 zone, .func (.func F) #[] cap2] w fun e w' =>
      ∃ g c, e = .returned (.tuple #[.slice (some ⟨g, 0, none⟩) n c, .int .i64 (turnL T conv seq opn L zone).2]) ∧ w'.ownsRow w.heap.size 66 2 (.slice (some ⟨g, 0, none⟩) n c) n (zc (turnL T conv seq opn L zone).1) ∧ Below w.heap.size w w' := by
  have HH := Lib.hid fun w => zhas_any conv soft seq size opn zone A n cap w H hns
  have HK := Lib.hid fun w => clone_any A n cap L w hm hn (by have := H.1; have := H.2.1; omega)
  have H0 := Lib.hid (One.new w conv soft seq size opn 23)
  have Hns := Lib.hid hns
  have HN := Lib.hid hn
  have HR := Lib.hid hr
  by_cases hz : hasB conv seq zone = true
  · obtain ⟨hz0, hz1⟩ := has_in hz
    obtain ⟨k, rfl⟩ : ∃ k : Nat, zone = (k : Int) := ⟨zone.toNat, by omega⟩
    have hk : k < n := by omega
    rw [hz] at HH
    have hzk := getD_of (L := L) (k := k) (d := (0, 0)) (by omega)
    generalize L.getD k (0, 0) = z at hzk
    have HC := Lib.hid fun w' (h : Below w.heap.size w w') => countOpen_any A n cap L w' (by simp only [maxLen]; omega) hn ((hr.below h).more h.size)
    have HF := Lib.hid fun w' (hB : Below w.heap.size w w') => hF z.1 z.2 (decide ((cnt L : Int) < opn)) w' hB
    generalize hT : T (decide ((cnt L : Int) < opn)) (z.1, z.2) = r at HF
    obtain ⟨⟨ts, tp⟩, te⟩ := r
    rw [turnL_yes hz hzk hT]
    have HZK := Lib.hid hzk
    clear hF hT hr hn hns hz hz0 hz1 hzk
    go_enter Try.func67, Try.ntmps67
    go_wp2_with fail
    generalize World.alloc _ _ = w0 at H0 ⊢
    refine (HK.out _ (HR.out.one H0.out)).mono ?_
    rintro e w1 ⟨g, c, rfl, hown, hb⟩
    have H1 := Lib.hid (One.below H0.out hb)
    have hown := own_base hown H0.out.2.size
    clear H0 hb
    obtain ⟨c0, c1, c2, c3, c4, hlt⟩ := id H1.out.1
    go_wp2_with fail
    refine (HH.out _).mono ?_
    rintro e w2 ⟨rfl, hb⟩
    have H2 := Lib.hid (One.below H1.out hb)
    have hown2 := own_below hown hb
    obtain ⟨g1, hgA, hgw, hg⟩ := own_at hown2 (by omega)
    obtain rfl : g = g1 := by injection hgA with h; injection h
    clear c0 c1 c2 c3 c4 hlt H1 hb hown hgA
    obtain ⟨c0, c1, c2, c3, c4, hlt⟩ := id H2.out.1
    have d0 := hown2.cellAt (k * 2) (by omega)
    have d1 := hown2.cellAt (k * 2 + 1) (by omega)
    rw [zc_get0 HZK.out] at d0
    rw [zc_get1 HZK.out] at d1
    have Hb := Lib.hid H2.out.2
    have Hown := Lib.hid hown2
    have SO := Lib.hid fun w' (h : Below w2.heap.size w2 w') => (⟨(h.cell (p := ⟨w.heap.size, 4, none⟩) hlt).trans c4, (h.cell (p := ⟨g, k * 2, none⟩) hg).trans d0, (h.cell (p := ⟨g, k * 2 + 1, none⟩) hg).trans d1⟩ :
      w'.cell? ⟨w.heap.size, 4, none⟩ = some (.int .i64 opn) ∧ w'.cell? ⟨g, k * 2, none⟩ = some (.int .i64 z.1) ∧ w'.cell? ⟨g, k * 2 + 1, none⟩ = some (.int .i64 z.2))
    have hkI : (k : Int) < (n : Int) := by omega
    clear c0 c1 c2 c3 hown2 H2
    go_wp2_with fail
    first | go_region_held3 (fun w' => w'.cell? ⟨w.heap.size, 4, none⟩ = some (.int .i64 opn) ∧ w'.cell? ⟨g, k * 2, none⟩ = some (.int .i64 z.1) ∧ w'.cell? ⟨g, k * 2 + 1, none⟩ = some (.int .i64 z.2))
      (first | exact SO.out _ B4 | exact SO.out _ (B4.alloc B4.size _) | exact SO.out _ B3 | exact SO.out _ (B3.alloc B3.size _) | exact SO.out _ (Below.refl _ _).drew | exact SO.out _ ((Below.refl _ _).alloc (Nat.le_refl _) _).drew | exact SO.out _ ((B4.setCell (by have := B3.size; simp <;> omega) _).setCell (by have := B3.size; simp <;> omega) _))
      ((first
        | ((with_reducible refine (HC.out _ (by first | exact bthen Hb.out (Below.refl _ _).drew | exact bthen Hb.out ((Below.refl _ _).alloc (Nat.le_refl _) _).drew)).mono ?_); rintro e w3 ⟨rfl, hb3⟩; have B3 : Below w2.heap.size w2 w3 := (by first | exact bthen (Below.refl _ _).drew hb3 | exact bthen ((Below.refl _ _).alloc (Nat.le_refl _) _).drew hb3); obtain ⟨kcl, kfz⟩ := bcell hb3; try (have ks : w2.heap.size < w3.heap.size := by have := hb3.size; simp at this; omega))
        | ((with_reducible refine (HF.out _ (by first | exact bthen Hb.out B3 | exact bthen Hb.out (B3.alloc B3.size _))).mono ?_); rintro e w4 ⟨rfl, hb4⟩; have B4 : Below w2.heap.size w2 w4 := (by first | exact bthen B3 hb4 | exact bthen (B3.alloc B3.size _) hb4); obtain ⟨hcl, hfz⟩ := bcell hb4))) | fail
    all_goals
      have hs3 := B3.size
      first
      | (have q0 := (hcl w3.heap.size 0 (by simp)).trans (new_cells w3 (.int .i64 0) (.int .i64 0) 66 (0, 0)).1
         have q1 := (hcl w3.heap.size 1 (by simp)).trans (new_cells w3 (.int .i64 0) (.int .i64 0) 66 (0, 0)).2
         have f0 := set_at q0 (.int .i64 ts)
         have f1 := set_at (set_off q1 (.int .i64 ts) (show (⟨w3.heap.size, 0, none⟩ : Addr) ≠ ⟨w3.heap.size, 1, none⟩ by simp)) (.int .i64 tp)
         have BW := Lib.hid ((B4.setCell (p := ⟨w3.heap.size, 0, none⟩) hs3 (.int .i64 ts)).setCell (p := ⟨w3.heap.size, 1, none⟩) hs3 (.int .i64 tp))
         clear hcl hfz kcl kfz hb3 hb4 B3 B4 SO HC HF
         go_wp2_with ((with_reducible refine wpList_store_zone _ (o := ⟨none, .store _ _ _, _, _, _, _⟩) rfl _ _ _ rfl _ g n c k _ L (ts, tp) (own_below Hown.out BW.out) hk rfl rfl rfl ?_); intro w5 hown5 hg5; have Hown5 := Lib.hid hown5; have Hg5 := Lib.hid hg5; clear hown5 hg5))
      | (have q0 := (hcl w2.heap.size 0 (by omega)).trans ((kcl w2.heap.size 0 (by simp)).trans (new_cells w2 (.int .i64 0) (.int .i64 0) 66 (0, 0)).1)
         have q1 := (hcl w2.heap.size 1 (by omega)).trans ((kcl w2.heap.size 1 (by simp)).trans (new_cells w2 (.int .i64 0) (.int .i64 0) 66 (0, 0)).2)
         have f0 := set_at q0 (.int .i64 ts)
         have f1 := set_at (set_off q1 (.int .i64 ts) (show (⟨w2.heap.size, 0, none⟩ : Addr) ≠ ⟨w2.heap.size, 1, none⟩ by simp)) (.int .i64 tp)
         have BW := Lib.hid ((B4.setCell (p := ⟨w2.heap.size, 0, none⟩) (Nat.le_refl _) (.int .i64 ts)).setCell (p := ⟨w2.heap.size, 1, none⟩) (Nat.le_refl _) (.int .i64 tp))
         clear hcl hfz kcl kfz hb3 hb4 B3 B4 SO HC HF
         go_wp2_with ((with_reducible refine wpList_store_zone _ (o := ⟨none, .store _ _ _, _, _, _, _⟩) rfl _ _ _ rfl _ g n c k _ L (ts, tp) (own_below Hown.out BW.out) hk rfl rfl rfl ?_); intro w5 hown5 hg5; have Hown5 := Lib.hid hown5; have Hg5 := Lib.hid hg5; clear hown5 hg5))
      | (have BW := Lib.hid (B4.alloc B4.size (.cells #[.int .i64 ts, .int .i64 tp] 66))
         clear hcl hfz kcl kfz hb3 hb4 B3 B4 SO HC HF
         go_wp2_with ((with_reducible refine wpList_store_zone _ (o := ⟨none, .store _ _ _, _, _, _, _⟩) rfl _ _ _ rfl _ g n c k _ L (ts, tp) (own_below Hown.out BW.out) hk rfl rfl rfl ?_); intro w5 hown5 hg5; have Hown5 := Lib.hid hown5; have Hg5 := Lib.hid hg5; clear hown5 hg5))
    all_goals
      go_ret2
      exact ⟨g, c, rfl, Hown5.out, below_stored (bthen Hb.out BW.out) Hg5.out (bthen Hb.out BW.out).size hgw⟩
  · have hz : hasB conv seq zone = false := by simpa using hz
    rw [hz] at HH
    rw [turnL_no hz]
    clear hF hr hn hns hz
    go_enter Try.func67, Try.ntmps67
    go_wp2_with fail
    generalize World.alloc _ _ = w0 at H0 ⊢
    refine (HK.out _ (HR.out.one H0.out)).mono ?_
    rintro e w1 ⟨g, c, rfl, hown, hb⟩
    have H1 := Lib.hid (One.below H0.out hb)
    have hown := own_base hown H0.out.2.size
    clear H0 hb
    obtain ⟨c0, c1, c2, c3, c4, hlt⟩ := id H1.out.1
    go_wp2_with fail
    refine (HH.out _).mono ?_
    rintro e w2 ⟨rfl, hb⟩
    have H2 := Lib.hid (One.below H1.out hb)
    have Hown2 := Lib.hid (own_below hown hb)
    clear c0 c1 c2 c3 c4 hlt H1 hb hown
    go_wp2
    go_ret2
    exact ⟨g, c, rfl, Hown2.out, H2.out.2⟩
end Go.Proofs.Ythgjlofebicpiaa

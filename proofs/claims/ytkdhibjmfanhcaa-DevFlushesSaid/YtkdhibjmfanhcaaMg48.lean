/-
  DfQ DfR
-/
import Derived.Test.YtkdhibjmfanhcaaMg40
import Derived.Test.YtkdhibjmfanhcaaMg47
import Derived.Test.YtkdhibjmfanhcaaMg42
import Derived.Test.YtkdhibjmfanhcaaMg43
import Derived.Test.YtkdhibjmfanhcaaMg44
import Derived.Test.YtkdhibjmfanhcaaMg45
import Derived.Test.YtkdhibjmfanhcaaMg46
/-
  The document's answers for layer 5: Do, way by way.
-/
namespace Go.Proofs.Ytkdhibjmfanhcaa
open Go.RowKit Geom Zone Dev
set_option linter.unusedVariables false

set_option maxRecDepth 100000 in
set_option maxHeartbeats 4000000 in
theorem do_crash (N : Nat) (conv soft seq size opn : Int) (Q : Nat → Prop) (v : KV) (d : Dk) (x : AD) (w : World) (hN : N ≤ 900) (hok : Ok conv soft seq size opn) (hfit : Fit conv seq size opn d.L) (hI : DkIs N conv soft seq size opn Q w v d) (hx : AIn w x) (hk : x.k % 9 = 8) (hpl : ∀ c ∈ d.cached, 0 ≤ c.1 ∧ c.1 < conv + seq) :
    Calls Try.prog 9 #[.agg (kcs v).toArray, .agg (acs x).toArray] w fun e w' => ∃ v' er, e = .returned (.tuple #[.agg (kcs v').toArray, .int .i64 er]) ∧ DkIs (N + 1) conv soft seq size opn (fun k => Q k ∨ w.heap.size ≤ k) w' v' (crashK conv size x.keep x.soft0 x.tear d) ∧ Below w.heap.size w w' := by
  obtain ⟨Az, nz, cz, Ad, nd, cd, As, ns, cs, Ac, nc, cc, rfl, ⟨hzl, hzn⟩, ⟨hdl, hdle⟩, hsl, hcl, hsum, hi0, hi1⟩ := hI.form
  obtain ⟨mk, hmk, hszk⟩ := big_size (P := Try.prog) (t := 36) (s := 13) (by kernel_rfl)
  have hmk0 : ¬ mk = 0 := by omega
  have HMK := Lib.hid hmk
  have HP := Lib.hid hx.p
  have HX := Lib.hid hx
  have HI := Lib.hid hI
  have HO := Lib.hid (And.intro hok hfit)
  have HB := Lib.hid (And.intro (And.intro hzl hzn) (And.intro (And.intro hdl hdle) (And.intro hsl (And.intro hcl (And.intro hsum (And.intro hi0 (And.intro hi1 hN)))))))
  have hk0 := hx.k0
  have hk1 := hx.k1
  have hi2 : d.ill ≤ 900 := by omega
  clear hmk hx hI hok hfit hzl hzn hdl hdle hsl hcl hsum hi1
  have HPL := Lib.hid hpl
  clear hpl
  go_enter Try.func9, Try.ntmps9
  go_wp2_with (first
    | ((with_reducible refine wpList_kd_box (o := ⟨some 2, .box _ _, _, _, _, _⟩) rfl _ rfl (KV.mk conv soft seq size opn (.slice Az nz cz) (.slice Ad nd cd) (.slice As ns cs) (.slice Ac nc cc) (d.armed) (d.left) (d.down) (d.ill)) rfl ?_); intro w1 x0 hB1 hs1)
    | ((with_reducible refine wpList_act_box (o := ⟨some 3, .box _ _, _, _, _, _⟩) rfl _ rfl x rfl ?_); intro w2 x1 hB2 hs2)
    | ((with_reducible refine wpList_kd_alloc (o := ⟨some 4, .alloc _, _, _, _, _⟩) rfl rfl ?_); intro w3 x2 hB3 hs3; have L := DoX.start (M := 4000) HI.out (by have := HB.out.2.2.2.2.2.2; omega) x0 hB1 hs1 x1 hB2 hs2 x2 hB3 hs3; rw [hs2, hs1]; clear hs1 hs2 hs3 x0 x1 x2 hB1 hB2 hB3; obtain ⟨a0, a1, a2, a67, _, _, _⟩ := L.ax.act HP.out; obtain ⟨e0, e1, e2, e3, e4⟩ := L.kx.kd; obtain ⟨k5, k6, k7, k8⟩ := L.kx.kdv; obtain ⟨k9, k10, k11, k12⟩ := L.kx.kdn; have hld := big_load0 Try.prog w.heap.size 0 (kcs (KV.mk conv soft seq size opn (.slice Az nz cz) (.slice Ad nd cd) (.slice As ns cs) (.slice Ac nc cc) (d.armed) (d.left) (d.down) (d.ill))) mk (by rw [HMK.out]; rfl) w3 L.kx.range0; try dsimp only at e0 e1 e2 e3 e4 k5 k6 k7 k8 k9 k10 k11 k12; have HL := Lib.hid L; clear L)
    | fail)
  have hD3 : DkIs N conv soft seq size opn (VV Q w) w3 (KV.mk conv soft seq size opn (.slice Az nz cz) (.slice Ad nd cd) (.slice As ns cs) (.slice Ac nc cc) (d.armed) (d.left) (d.down) (d.ill)) d := HI.out.kept (fun k hk hq => .inl ⟨hq, hk⟩) HL.out.bl.size fun k hk _ => HL.out.bl.block k hk
  refine (dcrash_any N conv soft seq size opn (VV Q w) (KV.mk conv soft seq size opn (.slice Az nz cz) (.slice Ad nd cd) (.slice As ns cs) (.slice Ac nc cc) (d.armed) (d.left) (d.down) (d.ill)) d x.keepA x.kn x.kc x.keep x.soft0 x.tear w3 (by have := HB.out.2.2.2.2.2.2; omega) HO.out.1 hD3 HPL.out ((HX.out.kr.below HL.out.bl).more HL.out.bl.size) HX.out.kl HX.out.cap HX.out.mc HX.out.k64 HX.out.s0 HX.out.t).mono ?_
  rintro e w4 ⟨v', rfl, hD4, hb4⟩
  have HD4 := Lib.hid hD4
  have HB4 := Lib.hid hb4
  have hrx := HL.out.rx.on hb4
  have hkok := hD4.ok
  have hs4 := hb4.size
  have HS4 := Lib.hid hs4
  clear hD3 hD4 hb4 hs4 a0 a1 a2 a67 e0 e1 e2 e3 e4 k5 k6 k7 k8 k9 k10 k11 k12 hld
  go_wp2_with (first
    | ((refine wpList_kd_store (o := ⟨none, .store _ _ _, _, _, _, _⟩) rfl _ _ rfl (w.heap.size + 1 + 1) v' kd0 hkok rfl rfl hrx ?_); intro w9 hb9 hg9 hs9; clear hs9)
    | fail)
  have hldF := big_load0 Try.prog (w.heap.size + 1 + 1) 0 (kcs v') mk (by rw [HMK.out]; rfl) _ hb9.range0
  have hsz3 := HL.out.sz
  have hfin : DkIs (N + 1) conv soft seq size opn (fun k => Q k ∨ w.heap.size ≤ k) w9 v' (crashK conv size x.keep x.soft0 x.tear d) := by
    refine HD4.out.kept (fun k _ hq => ?_) hg9.size fun k hk hq => hg9.block k hk fun e => ?_
    · rcases hq with (⟨hq, _⟩ | hq) | hq
      · exact .inl hq
      · exact .inr (by omega)
      · exact .inr (by omega)
    · injection e with e
      rcases hq with (⟨_, hq⟩ | hq) | hq <;> omega
  have hbl := below_stored (bthen HL.out.bl HB4.out) hg9 (bthen HL.out.bl HB4.out).size (show w.heap.size ≤ w.heap.size + 1 + 1 by omega)
  generalize hR : kcs v' = R at hldF ⊢
  refine bodyPost_ret (v := .tuple #[.agg R.toArray, .int .i64 0]) (by simp [results, Try.results9, go_sem, hszk, hldF]) rfl ?_
  first
    | exact ⟨v', 0, by rw [hR], hfin, hbl⟩
    | exact ⟨v', ⟨0, by rw [hR]⟩, hfin, hbl⟩
end Go.Proofs.Ytkdhibjmfanhcaa

/-
  The document's answers for layer 5: Do, all ways together.
-/
namespace Go.Proofs.Ytkdhibjmfanhcaa
open Go.RowKit Geom Zone Dev
set_option linter.unusedVariables false

theorem do_any (N : Nat) (conv soft seq size opn : Int) (Q : Nat → Prop) (v : KV) (d : Dk) (x : AD) (w : World) (hN : N ≤ 900) (hok : Ok conv soft seq size opn) (hfit : Fit conv seq size opn d.L) (hI : DkIs N conv soft seq size opn Q w v d) (hx : AIn w x)
    (hpl : ∀ c ∈ d.cached, 0 ≤ c.1 ∧ c.1 < conv + seq) (hl : d.down = false → d.armed = true → 0 < d.left ∧ d.left < 9223372036854775808) :
    Calls Try.prog 9 #[.agg (kcs v).toArray, .agg (acs x).toArray] w fun e w' => ∃ v' er, e = .returned (.tuple #[.agg (kcs v').toArray, .int .i64 er]) ∧ DkIs (N + 1) conv soft seq size opn (fun k => Q k ∨ w.heap.size ≤ k) w' v' (doK conv soft seq size opn d x) ∧ Below w.heap.size w w' := by
  by_cases h7 : x.k % 9 = 7
  · rw [show doK conv soft seq size opn d x = armK d x.n by simp [doK, h7]]
    cases hdn : d.down with
    | true => exact do_arm_down N conv soft seq size opn Q v d x w hN hok hfit hI hx h7 hdn
    | false => exact do_arm_up N conv soft seq size opn Q v d x w hN hok hfit hI hx h7 hdn
  by_cases h8 : x.k % 9 = 8
  · rw [show doK conv soft seq size opn d x = crashK conv size x.keep x.soft0 x.tear d by simp [doK, h8]]
    exact do_crash N conv soft seq size opn Q v d x w hN hok hfit hI hx h8 hpl
  by_cases h4 : x.k % 9 = 4
  · rw [show doK conv soft seq size opn d x = (resetK conv soft seq size opn d x.a).1 by simp [doK, h4]]
    cases hdn : d.down with
    | true => exact do_reset_down N conv soft seq size opn Q v d x w hN hok hfit hI hx h4 hdn
    | false =>
      by_cases hw : (act conv soft seq size opn d.L 2 x.a.1 x.a.2).2 = 0
      · cases har : d.armed with
        | true => exact do_reset_tick N conv soft seq size opn Q v d x w hN hok hfit hI hx h4 hdn hw har (hl hdn har).1 (hl hdn har).2
        | false => exact do_reset_still N conv soft seq size opn Q v d x w hN hok hfit hI hx h4 hdn hw har
      · exact do_reset_ill N conv soft seq size opn Q v d x w hN hok hfit hI hx h4 hdn hw
  by_cases h5 : x.k % 9 = 5
  · rw [show doK conv soft seq size opn d x = (finishK conv soft seq size opn d x.a).1 by simp [doK, h5]]
    cases hdn : d.down with
    | true => exact do_finish_down N conv soft seq size opn Q v d x w hN hok hfit hI hx h5 hdn
    | false =>
      by_cases hw : (act conv soft seq size opn d.L 3 x.a.1 x.a.2).2 = 0
      · cases har : d.armed with
        | true => exact do_finish_tick N conv soft seq size opn Q v d x w hN hok hfit hI hx h5 hdn hw har (hl hdn har).1 (hl hdn har).2
        | false => exact do_finish_still N conv soft seq size opn Q v d x w hN hok hfit hI hx h5 hdn hw har
      · exact do_finish_ill N conv soft seq size opn Q v d x w hN hok hfit hI hx h5 hdn hw
  by_cases h6 : x.k % 9 = 6
  · rw [show doK conv soft seq size opn d x = (flushK d).1 by simp [doK, h6]]
    cases hdn : d.down with
    | true => exact do_flush_down N conv soft seq size opn Q v d x w hN hok hfit hI hx h6 hdn
    | false =>
      cases har : d.armed with
      | true => exact do_flush_tick N conv soft seq size opn Q v d x w hN hok hfit hI hx h6 hdn har (hl hdn har).1 (hl hdn har).2
      | false => exact do_flush_still N conv soft seq size opn Q v d x w hN hok hfit hI hx h6 hdn har
  have h3 : x.k % 9 ≤ 3 := by omega
  rw [show doK conv soft seq size opn d x = (writeK conv soft seq size opn d (x.a.1, x.a.2, x.p)).1 by simp [doK, h4, h5, h6, h7, h8]]
  cases hdn : d.down with
  | true => exact do_write_down N conv soft seq size opn Q v d x w hN hok hfit hI hx _ rfl h3 hdn
  | false =>
    by_cases hw : (act conv soft seq size opn d.L 0 x.a.1 x.a.2).2 = 0
    · cases har : d.armed with
      | true => exact do_write_tick N conv soft seq size opn Q v d x w hN hok hfit hI hx _ rfl h3 hdn hw har (hl hdn har).1 (hl hdn har).2
      | false => exact do_write_still N conv soft seq size opn Q v d x w hN hok hfit hI hx _ rfl h3 hdn hw har
    · exact do_write_ill N conv soft seq size opn Q v d x w hN hok hfit hI hx _ rfl h3 hdn hw
end Go.Proofs.Ytkdhibjmfanhcaa

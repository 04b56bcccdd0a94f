/-
  Package lane: Zones, Keep, behind, Fits, Moves.
-/
import Derived.Test.YtbhcemipjfdemaaLaB
namespace Go.Proofs.Ytbhcemipjfdemaa
open Go.RowKit Geom Leaf Pol
set_option linter.unusedVariables false

namespace Pol
/-- how many zones must stay free -/
def keepN (conv size : Int) (p : PS) : Int := if 0 < rm conv size p 2 then 1 else 2
def fitsB (conv size : Int) (p : PS) (a b : Nat) : Bool := match planX conv size (List.replicate a 0 ++ List.replicate b 2) p with
  | none => false
  | some r => decide (keepN conv size r.2 ≤ (fr conv r.2 : Int))
def movesB (conv size : Int) (p : PS) (n : Nat) : Bool := (planX conv size (List.replicate n 1 ++ List.replicate 1 2) p).isSome
end Pol
section
variable (conv soft seq size opn : Int) (A : Option Addr) (n cap : Nat) (p : PS)
theorem lroom_any (s : Nat) (w : World) (hm : n ≤ 64) (hn : p.ps.length = n) (S : Some conv seq size) (R : Rt conv seq size p) (hs : s < 3) (hr : Rd w w.heap.size A (is p.ps)) :
    Calls Try.prog 31 #[pgv conv soft seq size opn, ppv A n cap p.h0 p.h1 p.h2, .int .i64 s] w fun e w' => e = .returned (.int .i64 (rm conv size p s)) ∧ Below w.heap.size w w' := by
  obtain ⟨r, hr1, _, _, h, _⟩ := both_room conv soft seq size opn n p.ps p.h0 p.h1 p.h2 s hm hn S R hs
  have e : rm conv size p s = r := hr1.symm
  rw [e]
  exact h w A cap hr
theorem lfree_any (w : World) (hm : n ≤ 64) (hn : p.ps.length = n) (S : Some conv seq size) (hr : Rd w w.heap.size A (is p.ps)) :
    Calls Try.prog 25 #[pgv conv soft seq size opn, ppv A n cap p.h0 p.h1 p.h2] w fun e w' => ∃ A' c, e = .returned (.slice A' (fr conv p) c) ∧ Below w.heap.size w w' := by
  refine (pfree_any conv soft seq size opn A n cap p.ps p.h0 p.h1 p.h2 w hm hn S hr).mono ?_
  rintro e w' ⟨v, h1, h2, h3⟩
  obtain ⟨A', c, rfl⟩ := own_slice h2
  refine ⟨A', c, ?_, h3⟩
  unfold fr nfr
  rw [hn]
  exact h1
theorem fr_le (hn : p.ps.length = n) : fr conv p ≤ n := by
  unfold fr nfr freeX
  rw [hn]
  exact Nat.le_trans (List.length_filter_le _ _) (zones_le _ _ _ _)
set_option maxRecDepth 100000 in
theorem lkeep_any (w : World) (hm : n ≤ 64) (hn : p.ps.length = n) (S : Some conv seq size) (R : Rt conv seq size p) (hr : Rd w w.heap.size A (is p.ps)) :
    Calls Try.prog 19 #[pgv conv soft seq size opn, ppv A n cap p.h0 p.h1 p.h2] w fun e w' => e = .returned (.int .i64 (keepN conv size p)) ∧ Below w.heap.size w w' := by
  have H0 := Lib.hid (GP.new w conv soft seq size opn A n cap p.h0 p.h1 p.h2 23 27)
  have HR := Lib.hid fun w' (h : GP w w' conv soft seq size opn A n cap p.h0 p.h1 p.h2) => lroom_any conv soft seq size opn A n cap p 2 w' hm hn S R (by omega) (hr.gp h)
  generalize hrm : rm conv size p 2 = r at HR
  have HK := Lib.hid hrm
  clear hr R S hn hrm hm
  generalize p.h0 = h0 at *
  generalize p.h1 = h1 at *
  generalize p.h2 = h2 at *
  go_enter Try.func19, Try.ntmps19
  go_wp2_with fail
  generalize World.alloc _ _ = w0 at H0 ⊢
  obtain ⟨c0, c1, c2, c3, c4, cl⟩ := id H0.out.1
  obtain ⟨a0, a1, a2, a3, al⟩ := id H0.out.2.1
  go_wp2_with fail
  refine (HR.out _ H0.out).mono ?_
  rintro e w1 ⟨rfl, hb⟩
  have H1 := Lib.hid (GP.below H0.out hb)
  clear hb c0 c1 c2 c3 c4 cl a0 a1 a2 a3 al H0 HR
  by_cases h : 0 < r
  · have hd : decide (0 < r) = true := decide_eq_true h
    have HV : Hid (keepN conv size p = 1) := Lib.hid (by unfold keepN; rw [HK.out, if_pos h])
    go_wp2
    go_ret
    exact ⟨ret_int HV.out, H1.out.2.2⟩
  · have hd : decide (0 < r) = false := decide_eq_false h
    have HV : Hid (keepN conv size p = 2) := Lib.hid (by unfold keepN; rw [HK.out, if_neg h])
    go_wp2
    go_ret
    exact ⟨ret_int HV.out, H1.out.2.2⟩
set_option maxRecDepth 100000 in
theorem lzones_any (s m : Nat) (w : World) (hm : n ≤ 64) (hn : p.ps.length = n) (S : Some conv seq size) (R : Rt conv seq size p) (hs : s < 3) (hk : m ≤ 10000) (hr : Rd w w.heap.size A (is p.ps)) :
    Calls Try.prog 17 #[pgv conv soft seq size opn, ppv A n cap p.h0 p.h1 p.h2, .int .i64 s, .int .i64 m] w fun e w' => e = .returned (.int .i64 (need size (rm conv size p s) m)) ∧ Below w.heap.size w w' := by
  have H0 := Lib.hid (GP.new w conv soft seq size opn A n cap p.h0 p.h1 p.h2 23 27)
  have HR := Lib.hid fun w' (h : GP w w' conv soft seq size opn A n cap p.h0 p.h1 p.h2) => lroom_any conv soft seq size opn A n cap p s w' hm hn S R hs (hr.gp h)
  obtain ⟨r0, r1, _⟩ := Rt.rm0 R S hs
  generalize rm conv size p s = r at *
  obtain ⟨q1, q2, q3, q4, q5⟩ := S
  clear hr R hn hm
  generalize p.h0 = h0 at *
  generalize p.h1 = h1 at *
  generalize p.h2 = h2 at *
  go_enter Try.func17, Try.ntmps17
  go_wp2_with fail
  generalize World.alloc _ _ = w0 at H0 ⊢
  obtain ⟨c0, c1, c2, c3, c4, cl⟩ := id H0.out.1
  obtain ⟨a0, a1, a2, a3, al⟩ := id H0.out.2.1
  go_wp2_with fail
  refine (HR.out _ H0.out).mono ?_
  rintro e w1 ⟨rfl, hb⟩
  have H1 := Lib.hid (GP.below H0.out hb)
  clear hb c0 c1 c2 c3 c4 cl a0 a1 a2 a3 al H0 HR
  obtain ⟨c0, c1, c2, c3, c4, cl⟩ := id H1.out.1
  by_cases h : (m : Int) ≤ r
  · have hd : decide ((m : Int) ≤ r) = true := decide_eq_true h
    have HV : Hid (need size r m = 0) := Lib.hid (if_pos h)
    clear h
    go_wp2
    go_ret
    exact ⟨ret_int HV.out, H1.out.2.2⟩
  · have hd : decide ((m : Int) ≤ r) = false := decide_eq_false h
    have hd1 : decide (size < 1) = false := decide_eq_false (by omega)
    have HV : Hid (need size r m = (m - r - 1) / size + 1) := Lib.hid (if_neg h)
    have hw1 := IntWalk.i64_in ((m : Int) - r) (by omega)
    have hw2 := IntWalk.i64_in ((m : Int) - r - 1) (by omega)
    have hq0 := Int.ediv_nonneg (a := (m : Int) - r - 1) (b := size) (by omega) (by omega)
    have hq1 := Int.ediv_le_self (a := (m : Int) - r - 1) size (by omega)
    have hw3 := IntWalk.i64_in (((m : Int) - r - 1) / size) (by omega)
    have hw4 := IntWalk.i64_in (((m : Int) - r - 1) / size + 1) (by omega)
    have hs0 : (size == 0) = false := by simp; omega
    go_wp2
    go_ret
    exact ⟨ret_int HV.out, H1.out.2.2⟩
theorem rd_one (W : World) (x : Int) : Rd (W.alloc (.cells #[.int .i64 x] 3)) (W.alloc (.cells #[.int .i64 x] 3)).heap.size (some ⟨W.heap.size, 0, none⟩) (is [x]) :=
  (rd_new W (is [x]) 3 (0, 0)).more (by simp)
theorem isn_rep (s t a b : Nat) : is (List.replicate a (s : Int)) ++ is (List.replicate b (t : Int)) = isn (List.replicate a s ++ List.replicate b t) := by
  rw [isn, List.map_append, List.map_replicate, List.map_replicate, ← pis_append]
  rfl
theorem isn_rep2 (s a b : Nat) : is (List.replicate a (s : Int)) ++ is (List.replicate b (2 : Int)) = isn (List.replicate a s ++ List.replicate b 2) := isn_rep s 2 a b
set_option maxRecDepth 100000 in
set_option maxHeartbeats 8000000 in
theorem lbehind_any (s a b : Nat) (w : World) (hm : n ≤ 64) (hn : p.ps.length = n) (S : Some conv seq size) (R : Rt conv seq size p) (hs : s < 3) (ha : a ≤ 10000) (hb : b ≤ 10000) (hr : Rd w w.heap.size A (is p.ps)) :
    Calls Try.prog 33 #[pgv conv soft seq size opn, ppv A n cap p.h0 p.h1 p.h2, .int .i64 s, .int .i64 a, .int .i64 b] w fun e w' =>
      (planX conv size (List.replicate a s ++ List.replicate b 2) p = none ∧ ∃ g c, e = .returned (.tuple #[ppv (some ⟨g, 0, none⟩) n c p.h0 p.h1 p.h2, .bool false]) ∧ Below w.heap.size w w') ∨
      (∃ l q, planX conv size (List.replicate a s ++ List.replicate b 2) p = some (l, q) ∧ ∃ g c, e = .returned (.tuple #[ppv (some ⟨g, 0, none⟩) n c q.h0 q.h1 q.h2, .bool true]) ∧ Rd w' w'.heap.size (some ⟨g, 0, none⟩) (is q.ps) ∧ Below w.heap.size w w') := by
  have H0 := Lib.hid (GP.res w conv soft seq size opn A n cap p.h0 p.h1 p.h2)
  have HPl := Lib.hid fun w' A4 c4 (h : GP w w' conv soft seq size opn A n cap p.h0 p.h1 p.h2) h4 => lplan_any conv soft seq size opn A n cap p.ps p.h0 p.h1 p.h2 A4 (a + b) c4 (List.replicate a s ++ List.replicate b 2) w' hm hn S R (hr.gp h) (by
    intro x hx
    rcases List.mem_append.1 hx with h | h
    · rw [List.eq_of_mem_replicate h]; exact hs
    · rw [List.eq_of_mem_replicate h]; omega) (by simp) (by omega) h4
  have HRp := Lib.hid fun w' A' c' x k hk h => srepeat_any A' c' x k w' hk h
  have hp : 0 < n := by have := Ri.len R; have := S.2.1; omega
  have HP := Lib.hid hp
  have hd1 : decide ((a : Int) < 0) = false := decide_eq_false (by omega)
  have hd2 : decide ((16384 : Int) < (a : Int)) = false := decide_eq_false (by omega)
  have hd3 : decide ((b : Int) < 0) = false := decide_eq_false (by omega)
  have hd4 : decide ((16384 : Int) < (b : Int)) = false := decide_eq_false (by omega)
  have HAB := Lib.hid (And.intro ha hb)
  have e : (⟨p.ps, p.h0, p.h1, p.h2⟩ : PS) = p := rfl
  rw [e] at HPl
  generalize planX conv size (List.replicate a s ++ List.replicate b 2) p = res at *
  clear hr S R hn hs hm hp e
  generalize p.h0 = h0 at *
  generalize p.h1 = h1 at *
  generalize p.h2 = h2 at *
  have hsz : (((w.alloc (.cells #[.int .i64 conv, .int .i64 soft, .int .i64 seq, .int .i64 size, .int .i64 opn] 23)).alloc (.cells #[.slice A n cap, .int .i64 h0, .int .i64 h1, .int .i64 h2] 27)).alloc (.cells #[.slice none 0 0, .int .i64 0, .int .i64 0, .int .i64 0] 27)).heap.size = w.heap.size + 1 + 1 + 1 := by simp
  have Hsz := Lib.hid hsz
  clear hsz
  go_enter Try.func33, Try.ntmps33
  go_wp2_with fail
  generalize World.alloc (World.alloc (World.alloc w _) _) _ = w0 at H0 Hsz ⊢
  have hA := rd_one w0 s
  rw [Hsz.out] at hA
  refine (HRp.out _ _ _ (s : Int) a (by have := HAB.out; omega) hA).mono ?_
  clear hA
  rintro e w2 ⟨g1, rfl, own1, hb1⟩
  have B2 := Lib.hid (bthen ((Below.refl _ _).alloc (Nat.le_refl w0.heap.size) _) hb1)
  have O1 := Lib.hid (own_base0 own1 (show w0.heap.size ≤ _ by simp))
  clear hb1 own1
  go_wp2_with fail
  refine (HRp.out _ _ _ 2 b (by have := HAB.out; omega) (rd_one w2 2)).mono ?_
  rintro e w3 ⟨g2, rfl, own2, hb2⟩
  have B3 := Lib.hid (bthen (below_alloc1 B2.out) hb2)
  have O3 := Lib.hid (own_below (O1.out.alloc _) hb2)
  have RD2 := Lib.hid (Rd.own own2)
  have hL2 : (is (List.replicate b (2 : Int))).length = b * 1 := by rw [is_length, List.length_replicate, Nat.mul_one]
  have hw3 := B3.out.size
  clear hb2 own2 B2 O1
  go_wp2_with (at_builtin; refine wpList_append_rd _ rfl _ _ _ rfl w0.heap.size 3 _ 1 8 pelemI (.slice (some ⟨g1, 0, none⟩) a a) a (is (List.replicate a (s : Int))) rfl O3.out w3.heap.size (some ⟨g2, 0, none⟩) b b (is (List.replicate b (2 : Int))) rfl hL2 RD2.out (is_one _) (by have := HAB.out; simp only [maxLen]; omega) (by have := HAB.out; omega) hw3 ?_; intro v4 w4 hown4 hg4 hat4; go_loud (rw [isn_rep2 s a b] at hown4); have B4 := Lib.hid (B3.out.grown hg4 hw3 (fun k hk => (O3.out.lt k hk).1)); obtain ⟨A4, c4, rfl⟩ := own_slice hown4; have RS4 := Lib.hid (Rd.own hown4); clear hown4 hg4 hat4 hw3 hL2; have H4 := Lib.hid (GP.below H0.out.1 B4.out); have R4 := Lib.hid (H0.out.2.on B4.out); obtain ⟨c0, c1, c2, c3, cc4, cl⟩ := id H4.out.1; obtain ⟨a0, a1, a2, a3, al⟩ := id H4.out.2.1)
  refine (HPl.out _ _ _ H4.out RS4.out).mono ?_
  clear c0 c1 c2 c3 cc4 cl a0 a1 a2 a3 al O3 RD2 B3
  rintro e w5 (⟨hres, g5, p5, rfl, hown, hb⟩ | ⟨l, q, hres, V, g5, p5, rfl, _, hown, hb⟩)
  · have H5 := Lib.hid (GP.below H4.out hb)
    have R5 := Lib.hid (R4.out.on hb)
    clear hb hown H4 R4
    go_wp2_with (first
      | ((with_reducible refine wpList_pool_alloc (o := ⟨_, .alloc _, _, _, _, _⟩) rfl rfl ?_); intro u2 xb hu2 hs2; clear hs2)
      | ((with_reducible refine wpList_pool_store (o := ⟨none, .store _ _ _, _, _, _, _⟩) rfl _ _ rfl _ (some ⟨g5, 0, none⟩) none n 0 p5 0 h0 h1 h2 0 0 0 rfl rfl xb ?_); intro u4 xd hu4; have hv1 := hu2.grown hu4 hu2.size (fun k hk => by injection hk with hk; omega); have H6 := Lib.hid (GP.below H5.out hv1); have R6 := Lib.hid (R5.out.on hv1); clear xb hu2 hu4 hv1; generalize w5.heap.size = bx at xd ⊢; obtain ⟨b0, b1, b2, b3, bl⟩ := Box.pool xd; clear xd)
      | ((with_reducible refine wpList_pool_store (o := ⟨none, .store _ _ _, _, _, _, _⟩) rfl _ _ rfl _ (some ⟨g5, 0, none⟩) none n 0 p5 0 h0 h1 h2 0 0 0 rfl rfl R6.out ?_); intro w9 x9 hg9; have HF9 := Lib.hid (H6.out.2.2.grown hg9 H6.out.2.2.size (fun k hk => by injection hk with hk; omega)); obtain ⟨r0, r1, r2, r3, rl⟩ := Box.pool x9; clear hg9 x9)
      | fail)
    exact bodyPost_ret (v := .tuple #[ppv (some ⟨g5, 0, none⟩) n p5 h0 h1 h2, .bool false]) (by simp [results, Try.results33, go_sem, r0, r1, r2, r3]) rfl (Or.inl ⟨hres, g5, p5, rfl, HF9.out⟩)
  · have H5 := Lib.hid (GP.below H4.out hb)
    have R5 := Lib.hid (R4.out.on hb)
    have O5 := Lib.hid hown
    have G5 := Lib.hid (show w.heap.size + 1 + 1 < g5 by
      obtain ⟨g', hA, h1', _⟩ := own_at hown HP.out
      obtain rfl : g5 = g' := by injection hA with h; injection h
      have := R4.out.lt
      omega)
    have HQ := Lib.hid (rfl : q = q)
    clear hb hown H4 R4
    generalize hk0 : q.h0 = k0 at *
    generalize hk1 : q.h1 = k1 at *
    generalize hk2 : q.h2 = k2 at *
    have HK := Lib.hid (And.intro hk0 (And.intro hk1 hk2))
    clear hk0 hk1 hk2
    go_wp2_with (first
      | ((with_reducible refine wpList_pool_alloc (o := ⟨_, .alloc _, _, _, _, _⟩) rfl rfl ?_); intro u2 xb hu2 hs2; clear hs2)
      | ((with_reducible refine wpList_pool_store (o := ⟨none, .store _ _ _, _, _, _, _⟩) rfl _ _ rfl _ (some ⟨g5, 0, none⟩) none n 0 p5 0 k0 k1 k2 0 0 0 rfl rfl xb ?_); intro u4 xd hu4; have hv1 := hu2.grown hu4 hu2.size (fun k hk => by injection hk with hk; omega); have H6 := Lib.hid (GP.below H5.out hv1); have R6 := Lib.hid (R5.out.on hv1); have O6 := Lib.hid (own_below O5.out hv1); clear xb hu2 hu4 hv1; generalize w5.heap.size = bx at xd ⊢; obtain ⟨b0, b1, b2, b3, bl⟩ := Box.pool xd; clear xd)
      | ((with_reducible refine wpList_pool_store (o := ⟨none, .store _ _ _, _, _, _, _⟩) rfl _ _ rfl _ (some ⟨g5, 0, none⟩) none n 0 p5 0 k0 k1 k2 0 0 0 rfl rfl R6.out ?_); intro w9 x9 hg9; have HF9 := Lib.hid (H6.out.2.2.grown hg9 H6.out.2.2.size (fun k hk => by injection hk with hk; omega)); have O9 := Lib.hid (own_grown O6.out hg9 (by have := G5.out; omega)); obtain ⟨r0, r1, r2, r3, rl⟩ := Box.pool x9; clear hg9 x9)
      | fail)
    exact bodyPost_ret (v := .tuple #[ppv (some ⟨g5, 0, none⟩) n p5 k0 k1 k2, .bool true]) (by simp [results, Try.results33, go_sem, r0, r1, r2, r3]) rfl (Or.inr ⟨l, q, hres, g5, p5, by rw [HK.out.1, HK.out.2.1, HK.out.2.2], Rd.own O9.out, HF9.out⟩)
end
end Go.Proofs.Ytbhcemipjfdemaa

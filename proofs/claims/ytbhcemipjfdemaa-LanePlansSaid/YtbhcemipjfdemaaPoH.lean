/-
  Package pool: a pool in which a stream has a head; Reset.
-/
import Derived.Test.YtbhcemipjfdemaaPoG
namespace Go.Proofs.Ytbhcemipjfdemaa
open Go.RowKit Geom Leaf Pol
set_option linter.unusedVariables false

theorem GP.res (w : World) (conv soft seq size opn : Int) (A : Option Addr) (n cap : Nat) (h0 h1 h2 : Int) :
    GP w (((w.alloc (.cells #[.int .i64 conv, .int .i64 soft, .int .i64 seq, .int .i64 size, .int .i64 opn] 23)).alloc (.cells #[.slice A n cap, .int .i64 h0, .int .i64 h1, .int .i64 h2] 27)).alloc (.cells #[.slice none 0 0, .int .i64 0, .int .i64 0, .int .i64 0] 27)) conv soft seq size opn A n cap h0 h1 h2 ∧
    Box (((w.alloc (.cells #[.int .i64 conv, .int .i64 soft, .int .i64 seq, .int .i64 size, .int .i64 opn] 23)).alloc (.cells #[.slice A n cap, .int .i64 h0, .int .i64 h1, .int .i64 h2] 27)).alloc (.cells #[.slice none 0 0, .int .i64 0, .int .i64 0, .int .i64 0] 27)) (w.heap.size + 1 + 1) 27 (plcs none 0 0 0 0 0) := by
  refine ⟨(GP.new ..).alloc _, ?_⟩
  have h := Box.new ((w.alloc (.cells #[.int .i64 conv, .int .i64 soft, .int .i64 seq, .int .i64 size, .int .i64 opn] 23)).alloc (.cells #[.slice A n cap, .int .i64 h0, .int .i64 h1, .int .i64 h2] 27)) 27 (plcs none 0 0 0 0 0)
  rwa [show ((w.alloc (.cells #[.int .i64 conv, .int .i64 soft, .int .i64 seq, .int .i64 size, .int .i64 opn] 23)).alloc (.cells #[.slice A n cap, .int .i64 h0, .int .i64 h1, .int .i64 h2] 27)).heap.size = w.heap.size + 1 + 1 by simp] at h
/-- a pool's copy lies in a new variable -/
theorem HdSt.made {w w0 w1 w2 w3 : World} {r g c : Nat} {conv soft seq size opn : Int} {A : Option Addr} {n cap : Nat} {h0 h1 h2 : Int} {ps : List Int} {k0 k1 k2 : Int}
    (G : GP w w0 conv soft seq size opn A n cap h0 h1 h2) (R : Box w0 r 27 (plcs none 0 0 0 0 0)) (hr : w.heap.size + 1 < r) (hb : Below w0.heap.size w0 w1) (hown : w1.ownsRow w0.heap.size 3 1 (.slice (some ⟨g, 0, none⟩) n c) n (is ps)) (hn : 0 < n)
    (hb2 : Below w1.heap.size w1 w2) (x2 : Box w2 w1.heap.size 27 (plcs none 0 0 0 0 0)) (x3 : Box w3 w1.heap.size 27 (plcs (some ⟨g, 0, none⟩) n c k0 k1 k2)) (hg3 : w2.grownBy w3 (some w1.heap.size)) :
    HdSt w w3 r w0.heap.size w1.heap.size g c conv soft seq size opn A n cap h0 h1 h2 ps k0 k1 k2 := by
  have hb3 : Below w1.heap.size w1 w3 := hb2.grown hg3 hb2.size (fun k hk => by injection hk with hk; omega)
  obtain ⟨g', hgA, hgw, hg⟩ := own_at hown hn
  obtain rfl : g = g' := by injection hgA with h; injection h
  exact ⟨(G.below hb).below hb3, (R.on hb).on hb3, x3, own_below hown hb3, hr, R.lt, hb.size, hgw, Nat.lt_of_lt_of_le hg hb3.size⟩
section
variable (conv soft seq size opn : Int) (A : Option Addr) (n cap : Nat) (ps : List Int) (h0 h1 h2 : Int)
set_option maxRecDepth 100000 in
set_option maxHeartbeats 4000000 in
theorem pheaded_own (s : Nat) (w : World) (hm : n ≤ 64) (hn : ps.length = n) (S : Some conv seq size) (R : Ri conv seq size ps h0 h1 h2) (hr : Rd w w.heap.size A (is ps)) (hs : s < 3) (hh : hd h0 h1 h2 s ≠ 0) :
    Calls Try.prog 43 #[pgv conv soft seq size opn, ppv A n cap h0 h1 h2, .int .i64 s] w fun e w' => ∃ g c, e = .returned (.tuple #[ppv (some ⟨g, 0, none⟩) n c h0 h1 h2, .bool true]) ∧ w'.ownsRow w.heap.size 3 1 (.slice (some ⟨g, 0, none⟩) n c) n (is ps) ∧ Below w.heap.size w w' := by
  have H0 := Lib.hid (GP.res w conv soft seq size opn A n cap h0 h1 h2)
  have hp : 0 < n := by have := R.len; have := S.2.1; omega
  have HC := Lib.hid fun w' (h : GP w w' conv soft seq size opn A n cap h0 h1 h2) => pcopied_any A n cap ps h0 h1 h2 w' hm hn hp (hr.gp h)
  have HP := Lib.hid hp
  have HS := Lib.hid hs
  have hsI : (s : Int) < 3 := by omega
  have hq : (hd h0 h1 h2 s != 0) = true := by simpa using hh
  clear hr R S hn hs hh hp
  go_enter Try.func43, Try.ntmps43
  go_wp2_with fail
  generalize World.alloc _ _ = w0 at H0 ⊢
  obtain ⟨c0, c1, c2, c3, c4, cl⟩ := id H0.out.1.1
  obtain ⟨a0, a1, a2, a3, al⟩ := id H0.out.1.2.1
  go_wp2_with fail
  refine (HC.out _ H0.out.1).mono ?_
  rintro e w1 ⟨g, c, rfl, hown, hb⟩
  have HB := Lib.hid hb
  have HO := Lib.hid hown
  clear c0 c1 c2 c3 c4 cl a0 a1 a2 a3 al HC hb hown
  go_wp2_with (first
    | ((with_reducible refine wpList_pool_alloc (o := ⟨_, .alloc _, _, _, _, _⟩) rfl rfl ?_); intro w2 x2 hb2 hs2; clear hs2)
    | ((with_reducible refine wpList_pool_store (o := ⟨none, .store _ _ _, _, _, _, _⟩) rfl _ _ rfl _ (some ⟨g, 0, none⟩) none n 0 c 0 h0 h1 h2 0 0 0 rfl rfl x2 ?_); intro w3 x3 hg3; have H3 := Lib.hid (HdSt.made H0.out.1 H0.out.2 (show w.heap.size + 1 < w.heap.size + 1 + 1 by omega) HB.out HO.out HP.out hb2 x2 x3 hg3); clear x2 x3 hb2 hg3; generalize w1.heap.size = b at H3 ⊢; obtain ⟨b0, b1, b2, b3, bl⟩ := H3.out.q.pool; have hbh := H3.out.q.pool.head HS.out)
    | ((with_reducible refine wpList_pool_store (o := ⟨none, .store _ _ _, _, _, _, _⟩) rfl _ _ rfl _ (some ⟨g, 0, none⟩) none n 0 c 0 h0 h1 h2 0 0 0 rfl rfl H3.out.rs ?_); intro w9 x9 hg9; have HF := Lib.hid (H3.out.gp.2.2.grown hg9 H3.out.gp.2.2.size (fun k hk => by injection hk with hk; have := H3.out.hw; omega)); have HO9 := Lib.hid (own_base0 (own_grown H3.out.own hg9 (by have := H3.out.hg.1; have := H3.out.hr; omega)) (by have := H3.out.hw; have := H3.out.hr; omega : w.heap.size ≤ w0.heap.size)); obtain ⟨r0, r1, r2, r3, rl⟩ := Box.pool x9; clear hg9 x9)
    | fail)
  exact bodyPost_ret (v := .tuple #[ppv (some ⟨g, 0, none⟩) n c h0 h1 h2, .bool true]) (by simp [results, Try.results43, go_sem, r0, r1, r2, r3]) rfl ⟨g, c, rfl, HO9.out, HF.out⟩
set_option maxRecDepth 100000 in
set_option maxHeartbeats 4000000 in
theorem pheaded_no (s : Nat) (w : World) (hm : n ≤ 64) (hn : ps.length = n) (S : Some conv seq size) (R : Ri conv seq size ps h0 h1 h2) (hr : Rd w w.heap.size A (is ps)) (hs : s < 3) (hh : hd h0 h1 h2 s = 0) (hf : freeX conv ps h0 h1 h2 n = []) :
    Calls Try.prog 43 #[pgv conv soft seq size opn, ppv A n cap h0 h1 h2, .int .i64 s] w fun e w' => ∃ g c, e = .returned (.tuple #[ppv (some ⟨g, 0, none⟩) n c h0 h1 h2, .bool false]) ∧ w'.ownsRow w.heap.size 3 1 (.slice (some ⟨g, 0, none⟩) n c) n (is ps) ∧ Below w.heap.size w w' := by
  have H0 := Lib.hid (GP.res w conv soft seq size opn A n cap h0 h1 h2)
  have hp : 0 < n := by have := R.len; have := S.2.1; omega
  have HC := Lib.hid fun w' (h : GP w w' conv soft seq size opn A n cap h0 h1 h2) => pcopied_any A n cap ps h0 h1 h2 w' hm hn hp (hr.gp h)
  have HP := Lib.hid hp
  have HS := Lib.hid hs
  have HH := Lib.hid hh
  have HFr := Lib.hid fun w' A' c' h => pfree_any conv soft seq size opn A' n c' ps h0 h1 h2 w' hm hn S h
  have HNil := Lib.hid hf
  have hsI : (s : Int) < 3 := by omega
  clear hr R S hn hs hh hp hf
  go_enter Try.func43, Try.ntmps43
  go_wp2_with fail
  generalize World.alloc _ _ = w0 at H0 ⊢
  obtain ⟨c0, c1, c2, c3, c4, cl⟩ := id H0.out.1.1
  obtain ⟨a0, a1, a2, a3, al⟩ := id H0.out.1.2.1
  go_wp2_with fail
  refine (HC.out _ H0.out.1).mono ?_
  rintro e w1 ⟨g, c, rfl, hown, hb⟩
  have HB := Lib.hid hb
  have HO := Lib.hid hown
  clear c0 c1 c2 c3 c4 cl a0 a1 a2 a3 al HC hb hown
  go_wp2_with (first
    | ((with_reducible refine wpList_pool_alloc (o := ⟨_, .alloc _, _, _, _, _⟩) rfl rfl ?_); intro w2 x2 hb2 hs2; clear hs2)
    | ((with_reducible refine wpList_pool_store (o := ⟨none, .store _ _ _, _, _, _, _⟩) rfl _ _ rfl _ (some ⟨g, 0, none⟩) none n 0 c 0 h0 h1 h2 0 0 0 rfl rfl x2 ?_); intro w3 x3 hg3; have H3 := Lib.hid (HdSt.made H0.out.1 H0.out.2 (show w.heap.size + 1 < w.heap.size + 1 + 1 by omega) HB.out HO.out HP.out hb2 x2 x3 hg3); clear x2 x3 hb2 hg3; generalize w1.heap.size = b at H3 ⊢; obtain ⟨b0, b1, b2, b3, bl⟩ := H3.out.q.pool; have hbh := (H3.out.q.pool.head HS.out).trans (by rw [HH.out]); obtain ⟨c0, c1, c2, c3, c4, cl⟩ := id H3.out.gp.1)
    | fail)
  have HFr2 := Lib.hid (HFr.out w3 (some ⟨g, 0, none⟩) c (Rd.own H3.out.own))
  refine HFr2.out.mono ?_
  rintro e w4 ⟨V, rfl, hown4, hb4⟩
  have H4 := Lib.hid (H3.out.on hb4)
  have HO4 := Lib.hid hown4
  have HB4 := Lib.hid hb4
  clear c0 c1 c2 c3 c4 cl b0 b1 b2 b3 bl hbh hown4 hb4 H3 HFr2 HFr
  rw [HNil.out] at HO4
  obtain ⟨A4, c4, rfl⟩ := own_slice HO4.out
  obtain ⟨b0, b1, b2, b3, bl⟩ := H4.out.q.pool
  go_wp2_with ((with_reducible refine wpList_pool_store (o := ⟨none, .store _ _ _, _, _, _, _⟩) rfl _ _ rfl _ (some ⟨g, 0, none⟩) none n 0 c 0 h0 h1 h2 0 0 0 rfl rfl H4.out.rs ?_); intro w9 x9 hg9; have HF := Lib.hid (H4.out.gp.2.2.grown hg9 H4.out.gp.2.2.size (fun k hk => by injection hk with hk; have := H4.out.hw; omega)); have HO9 := Lib.hid (own_base0 (own_grown H4.out.own hg9 (by have := H4.out.hg.1; have := H4.out.hr; omega)) (by have := H4.out.hw; have := H4.out.hr; omega : w.heap.size ≤ w0.heap.size)); obtain ⟨r0, r1, r2, r3, rl⟩ := Box.pool x9; clear hg9 x9)
  exact bodyPost_ret (v := .tuple #[ppv (some ⟨g, 0, none⟩) n c h0 h1 h2, .bool false]) (by simp [results, Try.results43, go_sem, r0, r1, r2, r3]) rfl ⟨g, c, rfl, HO9.out, HF.out⟩
set_option maxRecDepth 100000 in
set_option maxHeartbeats 4000000 in
theorem pheaded_free (s : Nat) (z : Int) (zs : List Int) (w : World) (hm : n ≤ 64) (hn : ps.length = n) (S : Some conv seq size) (R : Ri conv seq size ps h0 h1 h2) (hr : Rd w w.heap.size A (is ps)) (hs : s < 3) (hh : hd h0 h1 h2 s = 0) (hf : freeX conv ps h0 h1 h2 n = z :: zs) :
    Calls Try.prog 43 #[pgv conv soft seq size opn, ppv A n cap h0 h1 h2, .int .i64 s] w fun e w' => ∃ g c, e = .returned (.tuple #[ppv (some ⟨g, 0, none⟩) n c (sH s 0 z h0) (sH s 1 z h1) (sH s 2 z h2), .bool true]) ∧ w'.ownsRow w.heap.size 3 1 (.slice (some ⟨g, 0, none⟩) n c) n (is ps) ∧ Below w.heap.size w w' := by
  have H0 := Lib.hid (GP.res w conv soft seq size opn A n cap h0 h1 h2)
  have hp : 0 < n := by have := R.len; have := S.2.1; omega
  have HC := Lib.hid fun w' (h : GP w w' conv soft seq size opn A n cap h0 h1 h2) => pcopied_any A n cap ps h0 h1 h2 w' hm hn hp (hr.gp h)
  have HP := Lib.hid hp
  have HS := Lib.hid hs
  have HH := Lib.hid hh
  have HFr := Lib.hid fun w' A' c' h => pfree_any conv soft seq size opn A' n c' ps h0 h1 h2 w' hm hn S h
  have HNil := Lib.hid hf
  have hsI : (s : Int) < 3 := by omega
  clear hr R S hn hs hh hp hf
  go_enter Try.func43, Try.ntmps43
  go_wp2_with fail
  generalize World.alloc _ _ = w0 at H0 ⊢
  obtain ⟨c0, c1, c2, c3, c4, cl⟩ := id H0.out.1.1
  obtain ⟨a0, a1, a2, a3, al⟩ := id H0.out.1.2.1
  go_wp2_with fail
  refine (HC.out _ H0.out.1).mono ?_
  rintro e w1 ⟨g, c, rfl, hown, hb⟩
  have HB := Lib.hid hb
  have HO := Lib.hid hown
  clear c0 c1 c2 c3 c4 cl a0 a1 a2 a3 al HC hb hown
  go_wp2_with (first
    | ((with_reducible refine wpList_pool_alloc (o := ⟨_, .alloc _, _, _, _, _⟩) rfl rfl ?_); intro w2 x2 hb2 hs2; clear hs2)
    | ((with_reducible refine wpList_pool_store (o := ⟨none, .store _ _ _, _, _, _, _⟩) rfl _ _ rfl _ (some ⟨g, 0, none⟩) none n 0 c 0 h0 h1 h2 0 0 0 rfl rfl x2 ?_); intro w3 x3 hg3; have H3 := Lib.hid (HdSt.made H0.out.1 H0.out.2 (show w.heap.size + 1 < w.heap.size + 1 + 1 by omega) HB.out HO.out HP.out hb2 x2 x3 hg3); clear x2 x3 hb2 hg3; generalize w1.heap.size = b at H3 ⊢; obtain ⟨b0, b1, b2, b3, bl⟩ := H3.out.q.pool; have hbh := (H3.out.q.pool.head HS.out).trans (by rw [HH.out]); obtain ⟨c0, c1, c2, c3, c4, cl⟩ := id H3.out.gp.1)
    | fail)
  have HFr2 := Lib.hid (HFr.out w3 (some ⟨g, 0, none⟩) c (Rd.own H3.out.own))
  refine HFr2.out.mono ?_
  rintro e w4 ⟨V, rfl, hown4, hb4⟩
  have H4 := Lib.hid (H3.out.on hb4)
  have HO4 := Lib.hid hown4
  have HB4 := Lib.hid hb4
  clear c0 c1 c2 c3 c4 cl b0 b1 b2 b3 bl hbh hown4 hb4 H3 HFr2 HFr
  rw [HNil.out] at HO4
  obtain ⟨A4, c4, rfl⟩ := own_slice HO4.out
  obtain ⟨g4, rfl, hg4, hl4⟩ := own_at HO4.out (by simp)
  have v0 : w4.cell? ⟨g4, 0, none⟩ = some (.int .i64 z) := HO4.out.cellAt 0 (by simp)
  have hlen : ¬ ((zs.length : Int) + 1 = 0) := by omega
  have hl0 : (0 : Int) < (zs.length : Int) + 1 := by omega
  obtain ⟨b0, b1, b2, b3, bl⟩ := H4.out.q.pool
  have bh := H4.out.q.pool.head HS.out
  have bf := H4.out.q.frozen (1 + s)
  have H5 := Lib.hid (H4.out.head HP.out HS.out z)
  obtain ⟨e0, e1, e2, e3, el⟩ := H5.out.q.pool
  clear b0 b1 b2 b3 bl el hg4 hl4 HO4
  go_wp2_with ((with_reducible refine wpList_pool_store (o := ⟨none, .store _ _ _, _, _, _, _⟩) rfl _ _ rfl _ (some ⟨g, 0, none⟩) none n 0 c 0 (sH s 0 z h0) (sH s 1 z h1) (sH s 2 z h2) 0 0 0 rfl rfl H5.out.rs ?_); intro w9 x9 hg9; have HF := Lib.hid (H5.out.gp.2.2.grown hg9 H5.out.gp.2.2.size (fun k hk => by injection hk with hk; have := H5.out.hw; omega)); have HO9 := Lib.hid (own_base0 (own_grown H5.out.own hg9 (by have := H5.out.hg.1; have := H5.out.hr; omega)) (by have := H5.out.hw; have := H5.out.hr; omega : w.heap.size ≤ w0.heap.size)); obtain ⟨r0, r1, r2, r3, rl⟩ := Box.pool x9; clear hg9 x9)
  exact bodyPost_ret (v := .tuple #[ppv (some ⟨g, 0, none⟩) n c (sH s 0 z h0) (sH s 1 z h1) (sH s 2 z h2), .bool true]) (by simp [results, Try.results43, go_sem, r0, r1, r2, r3]) rfl ⟨g, c, rfl, HO9.out, HF.out⟩
end
end Go.Proofs.Ytbhcemipjfdemaa

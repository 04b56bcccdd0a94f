/-
  Layer 11's laws: what they share: a step said once; 'awake' answers true.
-/
import Derived.Test.YtnpnnejopibjcaaPoU
import Derived.Test.YtnpnnejopibjcaaPoV
import Derived.Test.YtnpnnejopibjcaaPoL
import Derived.Test.YtnpnnejopibjcaaIsa
import Derived.Test.YtnpnnejopibjcaaZoneJ
import Derived.Deep.RegionHeld3
namespace Go.Proofs.Ytnpnnejopibjcaa
open Go.RowKit Geom Leaf Pol Zone
set_option linter.unusedVariables false

def MeetP (A : Nat → Nat → Nat → Nat → Act) (R : World → Nat → Nat → Prop) : Exit → Act → World → Prop
  | .normal, a, w => ∃ b g gz cz, R w b g ∧ a = A b g gz cz
  | _, _, _ => False
theorem wp_meetP {P : Program} {c : Code} {Q : Exit → Act → World → Prop} {a : Act} {w : World} {A : Nat → Nat → Nat → Nat → Act} (R : World → Nat → Nat → Prop) (h : c.wp P (MeetP A R) a w) (h2 : ∀ w' b g gz cz, R w' b g → Q .normal (A b g gz cz) w') : c.wp P Q a w :=
  Code.wp_mono (fun e a' w' hm => by
    cases e <;> first | exact (hm : False).elim | (obtain ⟨b, g, gz, cz, hr, rfl⟩ := (hm : ∃ b g gz cz, R w' b g ∧ a' = A b g gz cz); exact h2 _ b g gz cz hr)) h
theorem laid_a {w1 w6 : World} {n g : Nat} (B6 : Below w1.heap.size w1 w6) (O6 : w6.ownsRow w1.heap.size 3 1 (.slice (some ⟨g, 0, none⟩) n n) n (is (List.replicate n 0))) (hn : 0 < n) :
    Below w1.heap.size w1 (w6.alloc (.cells #[.slice (some ⟨g, 0, none⟩) n n, .int .i64 0, .int .i64 0, .int .i64 0] 31)) ∧ w1.heap.size ≤ w6.heap.size ∧ w1.heap.size ≤ g ∧
      Box (w6.alloc (.cells #[.slice (some ⟨g, 0, none⟩) n n, .int .i64 0, .int .i64 0, .int .i64 0] 31)) w6.heap.size 31 (plcs (some ⟨g, 0, none⟩) n n 0 0 0) ∧
      (w6.alloc (.cells #[.slice (some ⟨g, 0, none⟩) n n, .int .i64 0, .int .i64 0, .int .i64 0] 31)).ownsRow w1.heap.size 3 1 (.slice (some ⟨g, 0, none⟩) n n) n (is (List.replicate n 0)) := by
  obtain ⟨g', hA, h1, _⟩ := own_at O6 hn
  obtain rfl : g = g' := by injection hA with h; injection h
  exact ⟨B6.alloc B6.size _, B6.size, h1, Box.new w6 _ (plcs (some ⟨g, 0, none⟩) n n 0 0 0), O6.alloc _⟩
theorem laid_b {w1 w6 : World} {n g b : Nat} (B6 : Below w1.heap.size w1 w6) (LB : w1.heap.size ≤ b) (X6 : Box w6 b 31 (plcs none 0 0 0 0 0)) (O6 : w6.ownsRow w1.heap.size 3 1 (.slice (some ⟨g, 0, none⟩) n n) n (is (List.replicate n 0))) (hn : 0 < n) :
    Below w1.heap.size w1 ((((w6.setCell ⟨b, 0, none⟩ (.slice (some ⟨g, 0, none⟩) n n)).setCell ⟨b, 1, none⟩ (.int .i64 0)).setCell ⟨b, 2, none⟩ (.int .i64 0)).setCell ⟨b, 3, none⟩ (.int .i64 0)) ∧ w1.heap.size ≤ b ∧ w1.heap.size ≤ g ∧
      Box ((((w6.setCell ⟨b, 0, none⟩ (.slice (some ⟨g, 0, none⟩) n n)).setCell ⟨b, 1, none⟩ (.int .i64 0)).setCell ⟨b, 2, none⟩ (.int .i64 0)).setCell ⟨b, 3, none⟩ (.int .i64 0)) b 31 (plcs (some ⟨g, 0, none⟩) n n 0 0 0) ∧
      ((((w6.setCell ⟨b, 0, none⟩ (.slice (some ⟨g, 0, none⟩) n n)).setCell ⟨b, 1, none⟩ (.int .i64 0)).setCell ⟨b, 2, none⟩ (.int .i64 0)).setCell ⟨b, 3, none⟩ (.int .i64 0)).ownsRow w1.heap.size 3 1 (.slice (some ⟨g, 0, none⟩) n n) n (is (List.replicate n 0)) := by
  obtain ⟨g', hA, h1, _⟩ := own_at O6 hn
  obtain rfl : g = g' := by injection hA with h; injection h
  have hne : g ≠ b := (X6.ne_row O6 rfl (by decide)).symm
  exact ⟨(((B6.setCell LB _).setCell LB _).setCell LB _).setCell LB _, LB, h1, (((X6.set 0 _).set 1 _).set 2 _).set 3 _,
    own_grown (own_grown (own_grown (own_grown O6 (pgrown_cell _ _ _) hne) (pgrown_cell _ _ _) hne) (pgrown_cell _ _ _) hne) (pgrown_cell _ _ _) hne⟩
theorem new_ptL (size : Int) (c n : Nat) : ptL size ((newK (c + n) c).drop c) = List.replicate n 0 := by
  unfold newK
  rw [List.drop_append, List.drop_eq_nil_of_le (by simp)]
  simp [ptL, usedI]
theorem new_beg (c : Int) {size : Int} (n : Nat) : ∀ k, begX c size (List.replicate n 0) k = []
  | 0 => rfl
  | k + 1 => by
    rw [begX, new_beg c n k, show (List.replicate n (0 : Int)).getD k 0 = 0 by rw [List.getD_eq_getElem?_getD, List.getElem?_replicate]; split <;> rfl]
    rfl
/-- the pool of a new device's zones -/
theorem popen_new (conv soft seq size opn : Int) (A : Option Addr) (N cap n : Nat) (w : World) (S : Some conv seq size) (hns : (N : Int) = conv + seq) (hn : (n : Int) = seq) (hcap : N ≤ cap) (hr : Rd w w.heap.size A (zc (newK N conv.toNat))) :
    Calls Try.prog 11 #[pgv conv soft seq size opn, .slice A N cap] w fun e w' => ∃ g, e = .returned (.tuple #[ppv (some ⟨g, 0, none⟩) n n 0 0 0, .bool true]) ∧ w'.ownsRow w.heap.size 3 1 (.slice (some ⟨g, 0, none⟩) n n) n (is (List.replicate n 0)) ∧ Below w.heap.size w w' := by
  have h := popen_any conv soft seq size opn A N cap n (newK N conv.toNat) w (newK_length (by have := S.1; have := S.2.1; omega)) S hns hn hcap hr
  rw [show N = conv.toNat + n by have := S.1; omega, new_ptL, new_beg] at h
  rw [show N = conv.toNat + n by have := S.1; omega]
  refine h.mono ?_
  rintro e w' (⟨h1, _⟩ | ⟨_, g, h2, h3, h4⟩)
  · simp at h1
  · exact ⟨g, h2, h3, h4⟩
section
variable (conv soft seq size opn : Int) (A : Option Addr) (n cap : Nat) (ps : List Int) (h0 h1 h2 : Int) (s : Nat)
theorem pstep_go (j : Nat) (x : Int) (w : World) (hm : n ≤ 64) (hn : ps.length = n) (S : Some conv seq size) (R : Ri conv seq size ps h0 h1 h2) (hr : Rd w w.heap.size A (is ps)) (G : Go1 conv size ps h0 h1 h2 s j x) :
    Calls Try.prog 16 #[pgv conv soft seq size opn, ppv A n cap h0 h1 h2, .int .i64 s] w fun e w' => ∃ g c, e = .returned (.tuple #[.agg #[.int .i64 (conv + j), .int .i64 x], ppv (some ⟨g, 0, none⟩) n c (sH s 0 (nxt size x (conv + j)) h0) (sH s 1 (nxt size x (conv + j)) h1) (sH s 2 (nxt size x (conv + j)) h2), .bool true]) ∧ w'.ownsRow w.heap.size 3 1 (.slice (some ⟨g, 0, none⟩) n c) n (is (ps.set j (x + 1))) ∧ Below w.heap.size w w' := by
  have hp := G.pk
  rw [hn] at hp
  have hj := G.hj
  rw [hn] at hj
  by_cases hf : x + 1 = size
  · have e : nxt size x (conv + j) = 0 := if_pos hf
    rw [e]
    exact pstep_full conv soft seq size opn A n cap ps h0 h1 h2 s j x w hm hn S R hr G.hs hp hj G.hx G.x0 G.x1 hf
  · have e : nxt size x (conv + j) = conv + j := if_neg hf
    rw [e]
    exact pstep_more conv soft seq size opn A n cap ps h0 h1 h2 s j x w hm hn S R hr G.hs hp hj G.hx G.x0 G.x1 hf
theorem pstep_is {z : Int} {qs : List Int} {k0 k1 k2 : Int} (j : Nat) (x : Int) (w : World) (hm : n ≤ 64) (hn : ps.length = n) (S : Some conv seq size) (R : Ri conv seq size ps h0 h1 h2) (hr : Rd w w.heap.size A (is ps)) (G : Go1 conv size ps h0 h1 h2 s j x)
    (hz : conv + j = z) (hq : ps.set j (x + 1) = qs) (e0 : sH s 0 (nxt size x (conv + j)) h0 = k0) (e1 : sH s 1 (nxt size x (conv + j)) h1 = k1) (e2 : sH s 2 (nxt size x (conv + j)) h2 = k2) :
    Calls Try.prog 16 #[pgv conv soft seq size opn, ppv A n cap h0 h1 h2, .int .i64 s] w fun e w' => ∃ g c, e = .returned (.tuple #[.agg #[.int .i64 z, .int .i64 x], ppv (some ⟨g, 0, none⟩) n c k0 k1 k2, .bool true]) ∧ w'.ownsRow w.heap.size 3 1 (.slice (some ⟨g, 0, none⟩) n c) n (is qs) ∧ Below w.heap.size w w' := by
  subst hz hq e0 e1 e2
  exact pstep_go conv soft seq size opn A n cap ps h0 h1 h2 s j x w hm hn S R hr G
theorem rpstep_go (j : Nat) (x : Int) (w : World) (hm : n ≤ 64) (hn : ps.length = n) (S : Some conv seq size) (R : Ri conv seq size ps h0 h1 h2) (hr : Rd w w.heap.size A (is ps)) (G : Go1 conv size ps h0 h1 h2 s j x) :
    Calls Try.prog 17 #[pgv conv soft seq size opn, ppv A n cap h0 h1 h2, .int .i64 s] w fun e w' => ∃ A' c, e = .returned (.tuple #[.agg #[.int .i64 (conv + j), .int .i64 x], ppv A' n c (sH s 0 (nxt size x (conv + j)) h0) (sH s 1 (nxt size x (conv + j)) h1) (sH s 2 (nxt size x (conv + j)) h2), .bool true]) ∧ w'.ownsRow w.heap.size 3 1 (.slice A' n c) n (is (ps.set j (x + 1))) ∧ Below w.heap.size w w' := by
  have hp := G.pk
  rw [hn] at hp
  have hj := G.hj
  rw [hn] at hj
  have hl := R.len
  rw [hn] at hl
  have hf0 : hd h0 h1 h2 s = conv + j ∨ (hd h0 h1 h2 s = 0 ∧ ∃ zs, freeX conv ps h0 h1 h2 n = (conv + j) :: zs) := by
    by_cases h : hd h0 h1 h2 s = 0
    · rw [pick_free h] at hp
      cases hf : freeX conv ps h0 h1 h2 n with
      | nil => rw [hf] at hp; cases hp
      | cons y ys =>
        rw [hf] at hp
        exact .inr ⟨h, ys, by rw [show y = conv + j by simpa using hp]⟩
    · rw [pick_head h] at hp
      exact .inl (by injection hp)
  by_cases hf : x + 1 = size
  · have e : nxt size x (conv + j) = 0 := if_pos hf
    rw [e]
    rcases hf0 with h | ⟨h, zs, hz⟩
    · exact rpstep_head_full conv soft seq size opn A n cap ps h0 h1 h2 s j x w hm hn S hl G.hs hr h hj G.hx G.x0 G.x1 hf
    · exact rpstep_free_full conv soft seq size opn A n cap ps h0 h1 h2 s j x w hm hn S hl G.hs hr h zs hz hj G.hx G.x0 G.x1 hf
  · have e : nxt size x (conv + j) = conv + j := if_neg hf
    rw [e]
    rcases hf0 with h | ⟨h, zs, hz⟩
    · exact rpstep_head_more conv soft seq size opn A n cap ps h0 h1 h2 s j x w hm hn S hl G.hs hr h hj G.hx G.x0 G.x1 hf
    · exact rpstep_free_more conv soft seq size opn A n cap ps h0 h1 h2 s j x w hm hn S hl G.hs hr h zs hz hj G.hx G.x0 G.x1 hf
theorem rpstep_pick (w : World) (hm : n ≤ 64) (hn : ps.length = n) (S : Some conv seq size) (R : Ri conv seq size ps h0 h1 h2) (hr : Rd w w.heap.size A (is ps)) (hs : s < 3) (hz : pick conv ps h0 h1 h2 n s = none) :
    Calls Try.prog 17 #[pgv conv soft seq size opn, ppv A n cap h0 h1 h2, .int .i64 s] w fun e w' => e = .returned (.tuple #[.agg #[.int .i64 0, .int .i64 0], ppv A n cap h0 h1 h2, .bool false]) ∧ Below w.heap.size w w' := by
  have hl := R.len
  rw [hn] at hl
  by_cases h : hd h0 h1 h2 s = 0
  · rw [pick_free h, List.head?_eq_none_iff] at hz
    exact rpstep_none conv soft seq size opn A n cap ps h0 h1 h2 s w hm hn S hl hs hr h hz
  · rw [pick_head h] at hz
    cases hz
end
theorem pat_eql (w : World) (a b c d : Int) : (binOp .eql 37 (.agg #[.int .i64 a, .int .i64 b]) (.agg #[.int .i64 c, .int .i64 d])).run Try.prog w = .ok (.bool (a == c && b == d)) w := by
  rw [run_eql_struct, run_equalIn_agg _ _ _ _ _ (by kernel_rfl) (by kernel_rfl)]
  simp [go_sem, Try.underlying37, Try.underlying3]
  by_cases h1 : a = c <;> by_cases h2 : b = d <;> simp [h1, h2]
theorem pat_neq (w : World) (a b c d : Int) : (binOp .neq 37 (.agg #[.int .i64 a, .int .i64 b]) (.agg #[.int .i64 c, .int .i64 d])).run Try.prog w = .ok (.bool (!(a == c && b == d))) w := by
  rw [run_neq_struct, run_equalIn_agg _ _ _ _ _ (by kernel_rfl) (by kernel_rfl)]
  simp [go_sem, Try.underlying37, Try.underlying3]
  by_cases h1 : a = c <;> by_cases h2 : b = d <;> simp [h1, h2]
theorem pat_guard : Try.prog.eqGuardType Try.prog.depth 37 = false := by kernel_rfl
theorem awP : Ok 2 8 6 8 3 := by decide
theorem awP1 : rightB 2 6 8 [0, 0, 0, 0, 0, 0] 0 0 0 = true ∧ rightB 2 6 8 [1, 0, 0, 0, 0, 0] 0 0 2 = true ∧ rightB 2 6 8 [2, 0, 0, 0, 0, 0] 0 0 2 = true ∧ rightB 2 6 8 [2, 1, 0, 0, 0, 0] 3 0 2 = true := by decide
theorem awP2 : pick 2 [0, 0, 0, 0, 0, 0] 0 0 0 6 2 = some 2 ∧ pick 2 [1, 0, 0, 0, 0, 0] 0 0 2 6 2 = some 2 ∧ pick 2 [2, 0, 0, 0, 0, 0] 0 0 2 6 0 = some 3 ∧ (freeX 2 [2, 1, 0, 0, 0, 0] 3 0 2 6).length = 4 := by decide
/-- what stands in memory while awake goes on: the measure, the pool's variable over its row -/
structure AwSt (w1 w' : World) (bg bp g : Nat) (c : Nat) (ps : List Int) (h0 h1 h2 : Int) : Prop where
  bl : Below w1.heap.size w1 w'
  bx : Box w' bp 31 (plcs (some ⟨g, 0, none⟩) 6 c h0 h1 h2)
  ow : w'.ownsRow w1.heap.size 3 1 (.slice (some ⟨g, 0, none⟩) 6 c) 6 (is ps)
  hb : w1.heap.size ≤ bp
theorem AwSt.on {w1 w' w2 : World} {bg bp g c : Nat} {ps : List Int} {h0 h1 h2 : Int} (h : AwSt w1 w' bg bp g c ps h0 h1 h2) (hb : Below w'.heap.size w' w2) : AwSt w1 w2 bg bp g c ps h0 h1 h2 :=
  ⟨h.bl.trans (hb.mono h.bl.size), h.bx.on hb, own_below h.ow hb, h.hb⟩
/-- the pool's variable takes another pool -/
theorem AwSt.put {w1 w' w2 w3 w4 : World} {bg bp g c g2 c2 : Nat} {ps qs : List Int} {h0 h1 h2 k0 k1 k2 : Int} (h : AwSt w1 w' bg bp g c ps h0 h1 h2) (hb : Below w'.heap.size w' w2) (ho : w2.ownsRow w'.heap.size 3 1 (.slice (some ⟨g2, 0, none⟩) 6 c2) 6 (is qs))
    (hb3 : Below w2.heap.size w2 w3) (hx : Box w4 bp 31 (plcs (some ⟨g2, 0, none⟩) 6 c2 k0 k1 k2)) (hg : w3.grownBy w4 (some bp)) : AwSt w1 w4 bg bp g2 c2 qs k0 k1 k2 :=
  ⟨((h.bl.trans (hb.mono h.bl.size)).trans (hb3.mono (Nat.le_trans h.bl.size hb.size))).grown hg (Nat.le_trans h.bl.size (Nat.le_trans hb.size hb3.size)) (fun k hk => by injection hk with hk; rw [← hk]; exact h.hb), hx,
    own_base0 (own_grown (own_below ho hb3) hg (by
      obtain ⟨g', hA, h1', _⟩ := own_at ho (by omega)
      obtain rfl : g2 = g' := by injection hA with e; injection e
      have := h.bx.lt
      omega)) h.bl.size, h.hb⟩
set_option maxRecDepth 100000 in
set_option maxHeartbeats 8000000 in
theorem awake11_any (w : World) : Calls Try.prog 8 #[] w fun e w' => e = .returned (.bool true) ∧ Below w.heap.size w w' := by
  have hgb := One.new w 2 8 6 8 3 23
  have HNew := Lib.hid fun w' => rnew_any 2 8 6 8 3 8 w' awP.some (by decide)
  have HOpen := Lib.hid fun w' A cz h hr => popen_new 2 8 6 8 3 A 8 cz 6 w' awP.some (by decide) (by decide) h hr
  go_enter Try.func8, Try.ntmps8
  go_wp2_with fail
  generalize World.alloc _ _ = w1 at hgb ⊢
  have H1 := Lib.hid hgb
  have SO := Lib.hid fun w' (h : Below w1.heap.size w1 w') => (fun (q : Lies w' w.heap.size 2 8 6 8 3) => (⟨q.1, q.2.1, q.2.2.1, q.2.2.2.1, q.2.2.2.2.1⟩ :
    w'.cell? ⟨w.heap.size, 0, none⟩ = some (.int .i64 2) ∧ w'.cell? ⟨w.heap.size, 1, none⟩ = some (.int .i64 8) ∧ w'.cell? ⟨w.heap.size, 2, none⟩ = some (.int .i64 6) ∧ w'.cell? ⟨w.heap.size, 3, none⟩ = some (.int .i64 8) ∧ w'.cell? ⟨w.heap.size, 4, none⟩ = some (.int .i64 3))) (hgb.1.below h)
  have qE := pat_eql
  have qG := pat_guard
  clear hgb
  apply wp_meetP (fun w' b' g' => Below w1.heap.size w1 w' ∧ w1.heap.size ≤ b' ∧ w1.heap.size ≤ g' ∧ Box w' b' 31 (plcs (some ⟨g', 0, none⟩) 6 6 0 0 0) ∧ w'.ownsRow w1.heap.size 3 1 (.slice (some ⟨g', 0, none⟩) 6 6) 6 (is (List.replicate 6 0)))
  · go_region_held3 (fun w' => w'.cell? ⟨w.heap.size, 0, none⟩ = some (.int .i64 2) ∧ w'.cell? ⟨w.heap.size, 1, none⟩ = some (.int .i64 8) ∧ w'.cell? ⟨w.heap.size, 2, none⟩ = some (.int .i64 6) ∧ w'.cell? ⟨w.heap.size, 3, none⟩ = some (.int .i64 8) ∧ w'.cell? ⟨w.heap.size, 4, none⟩ = some (.int .i64 3))
      (first | exact SO.out _ B6 | exact SO.out _ (B6.alloc B6.size _) | exact SO.out _ ((((B6.setCell LB _).setCell LB _).setCell LB _).setCell LB _) | exact SO.out _ B5 | exact SO.out _ (B5.alloc B5.size _) | exact SO.out _ (Below.refl _ _).drew | exact SO.out _ ((Below.refl _ _).alloc (Nat.le_refl _) _).drew)
      ((first
        | ((with_reducible refine (HNew.out _).mono ?_); rintro e w5 ⟨gz, cz, rfl, hown5, hb5⟩; have B5 : Below w1.heap.size w1 w5 := (by first | exact bthen (Below.refl _ _).drew hb5 | exact bthen ((Below.refl _ _).alloc (Nat.le_refl _) _).drew hb5); try (have X5 := (Box.new w1 31 (plcs none 0 0 0 0 0)).drew1.on hb5))
        | ((with_reducible refine (HOpen.out _ _ _ (own_cap hown5).1 (by first | exact Rd.own hown5 | exact Rd.own (World.ownsRow.alloc hown5 _))).mono ?_); rintro e w6 ⟨g6, rfl, hown6, hb6⟩; have B6 : Below w1.heap.size w1 w6 := (by first | exact bthen B5 hb6 | exact bthen (B5.alloc B5.size _) hb6); have O6 : w6.ownsRow w1.heap.size 3 1 (.slice (some ⟨g6, 0, none⟩) 6 6) 6 (is (List.replicate 6 0)) := (by first | exact own_base0 hown6 B5.size | exact own_base0 hown6 (B5.alloc B5.size _).size); (first | (have X6 := X5.on hb6; have LB : w1.heap.size ≤ w1.heap.size := Nat.le_refl _; have X6a := X6.set 0 (.slice (some ⟨g6, 0, none⟩) 6 6); have X6b := X6a.set 1 (.int .i64 0); have X6c := X6b.set 2 (.int .i64 0); have X6d := X6c.set 3 (.int .i64 0); have y0 : World.cell? _ ⟨_, 0, none⟩ = some (.slice none 0 0) := X6.cell 0; have z0 := X6.frozen 0; have y1 : World.cell? _ ⟨_, 1, none⟩ = some (.int .i64 0) := X6a.cell 1; have z1 := X6a.frozen 1; have y2 : World.cell? _ ⟨_, 2, none⟩ = some (.int .i64 0) := X6b.cell 2; have z2 := X6b.frozen 2; have y3 : World.cell? _ ⟨_, 3, none⟩ = some (.int .i64 0) := X6c.cell 3; have z3 := X6c.frozen 3) | (have X6 := (Box.new w5 31 (plcs none 0 0 0 0 0)).on hb6; have LB : w1.heap.size ≤ w5.heap.size := B5.size; have X6a := X6.set 0 (.slice (some ⟨g6, 0, none⟩) 6 6); have X6b := X6a.set 1 (.int .i64 0); have X6c := X6b.set 2 (.int .i64 0); have X6d := X6c.set 3 (.int .i64 0); have y0 : World.cell? _ ⟨_, 0, none⟩ = some (.slice none 0 0) := X6.cell 0; have z0 := X6.frozen 0; have y1 : World.cell? _ ⟨_, 1, none⟩ = some (.int .i64 0) := X6a.cell 1; have z1 := X6a.frozen 1; have y2 : World.cell? _ ⟨_, 2, none⟩ = some (.int .i64 0) := X6b.cell 2; have z2 := X6b.frozen 2; have y3 : World.cell? _ ⟨_, 3, none⟩ = some (.int .i64 0) := X6c.cell 3; have z3 := X6c.frozen 3) | skip))))
    · have F := laid_a B6 O6 (show 0 < 6 by omega)
      generalize w6.alloc _ = w9 at F ⊢
      generalize w6.heap.size = b6 at F ⊢
      exact ⟨b6, g6, gz, cz, F, rfl⟩
    · have F := laid_b B6 LB X6 O6 (show 0 < 6 by omega)
      clear X6a X6b X6c X6d y0 y1 y2 y3 z0 z1 z2 z3 X6
      generalize World.setCell _ _ _ = w9 at F ⊢
      generalize w5.heap.size = b6 at F ⊢
      exact ⟨b6, g6, gz, cz, F, rfl⟩
    · have F := laid_b B6 LB X6 O6 (show 0 < 6 by omega)
      clear X6a X6b X6c X6d y0 y1 y2 y3 z0 z1 z2 z3 X6
      generalize World.setCell _ _ _ = w9 at F ⊢
      generalize hb6' : w1.heap.size = b6 at F ⊢
      exact ⟨b6, g6, gz, cz, F, rfl⟩
  rintro u0 bp g0 gz cz ⟨hb2, hbp, hg2, x2, o2⟩
  have R0 := Lib.hid (right_iff.1 awP1.1)
  have R1 := Lib.hid (right_iff.1 awP1.2.1)
  have R2 := Lib.hid (right_iff.1 awP1.2.2.1)
  have R3 := Lib.hid (right_iff.1 awP1.2.2.2)
  have T0 := Lib.hid (AwSt.mk (bg := w.heap.size) hb2 x2 (show u0.ownsRow w1.heap.size 3 1 (.slice (some ⟨g0, 0, none⟩) 6 6) 6 (is [0, 0, 0, 0, 0, 0]) from o2) hbp)
  clear hb2 hbp hg2 x2 o2
  have HS := Lib.hid (pstep_is 2 8 6 8 3 (some ⟨g0, 0, none⟩) 6 6 [0, 0, 0, 0, 0, 0] 0 0 0 2 0 0 u0 (by omega) rfl awP.some R0.out (Rd.own T0.out.ow) ⟨by omega, awP2.1, by decide, rfl, by decide, by decide⟩ (z := 2) (qs := [1, 0, 0, 0, 0, 0]) (k0 := 0) (k1 := 0) (k2 := 2) rfl rfl rfl rfl rfl)
  obtain ⟨c0, c1, c2, c3, c4⟩ := SO.out _ T0.out.bl
  obtain ⟨b0, b1, b2, b3, bl⟩ := T0.out.bx.pool
  go_wp2_with fail
  refine HS.out.mono ?_
  rintro e v0 ⟨g1, p1, rfl, own0, hb0⟩
  have O0 := Lib.hid own0
  have B0 := Lib.hid hb0
  clear c0 c1 c2 c3 c4 b0 b1 b2 b3 bl own0 hb0 HS
  go_wp2_with (first
    | ((with_reducible refine wpList_pat_alloc (o := ⟨_, .alloc _, _, _, _, _⟩) rfl rfl ?_); intro y0 x0 hy0 hs0; clear hs0)
    | ((with_reducible refine wpList_pat_store (o := ⟨none, .store _ _ _, _, _, _, _⟩) rfl _ _ rfl _ 2 0 0 0 rfl rfl x0 ?_); intro z0 xz0 hz0; have HZ0 := Lib.hid (hy0.grown hz0 hy0.size (fun k hk => by injection hk with hk; omega)); have XZ0 := Lib.hid xz0; have XP0 := Lib.hid ((T0.out.bx.on B0.out).on HZ0.out); clear x0 xz0 hy0 hz0)
    | ((with_reducible refine wpList_pool_store (o := ⟨none, .store _ _ _, _, _, _, _⟩) rfl _ _ rfl _ (some ⟨g1, 0, none⟩) (some ⟨g0, 0, none⟩) 6 6 p1 6 0 0 2 0 0 0 rfl rfl XP0.out ?_); intro u1 xu0 hu0; have T1 := Lib.hid (T0.out.put B0.out O0.out HZ0.out xu0 hu0); have XA0 := Lib.hid (XZ0.out.grown hu0 (by have := T0.out.bx.lt; have := B0.out.size; omega)); have NE0 := Lib.hid (show v0.heap.size ≠ bp by have := T0.out.bx.lt; have := B0.out.size; omega); clear xu0 hu0; obtain ⟨c0, c1, c2, c3, c4⟩ := SO.out _ T1.out.bl; obtain ⟨b0, b1, b2, b3, bl⟩ := T1.out.bx.pool)
    | fail)
  clear T0 O0 B0 HZ0 XZ0 XP0
  have HS := Lib.hid (pstep_is 2 8 6 8 3 (some ⟨g1, 0, none⟩) 6 p1 [1, 0, 0, 0, 0, 0] 0 0 2 2 0 1 u1 (by omega) rfl awP.some R1.out (Rd.own T1.out.ow) ⟨by omega, awP2.2.1, by decide, rfl, by decide, by decide⟩ (z := 2) (qs := [2, 0, 0, 0, 0, 0]) (k0 := 0) (k1 := 0) (k2 := 2) rfl rfl rfl rfl rfl)
  refine HS.out.mono ?_
  rintro e v1 ⟨g2, p2, rfl, own1, hb1⟩
  have O1 := Lib.hid own1
  have B1 := Lib.hid hb1
  clear c0 c1 c2 c3 c4 b0 b1 b2 b3 bl own1 hb1 HS
  go_wp2_with (first
    | ((with_reducible refine wpList_pat_alloc (o := ⟨_, .alloc _, _, _, _, _⟩) rfl rfl ?_); intro y1 x1 hy1 hs1; clear hs1)
    | ((with_reducible refine wpList_pat_store (o := ⟨none, .store _ _ _, _, _, _, _⟩) rfl _ _ rfl _ 2 1 0 0 rfl rfl x1 ?_); intro z1 xz1 hz1; have HZ1 := Lib.hid (hy1.grown hz1 hy1.size (fun k hk => by injection hk with hk; omega)); have XZ1 := Lib.hid xz1; have XP1 := Lib.hid ((T1.out.bx.on B1.out).on HZ1.out); clear x1 xz1 hy1 hz1)
    | ((with_reducible refine wpList_pool_store (o := ⟨none, .store _ _ _, _, _, _, _⟩) rfl _ _ rfl _ (some ⟨g2, 0, none⟩) (some ⟨g1, 0, none⟩) 6 6 p2 p1 0 0 2 0 0 2 rfl rfl XP1.out ?_); intro u2 xu1 hu1; have T2 := Lib.hid (T1.out.put B1.out O1.out HZ1.out xu1 hu1); have XA1 := Lib.hid (XZ1.out.grown hu1 (by have := T1.out.bx.lt; have := B1.out.size; omega)); have XA0 := Lib.hid (((XA0.out.on B1.out).on HZ1.out).grown hu1 NE0.out); have NE1 := Lib.hid (show v1.heap.size ≠ bp by have := T1.out.bx.lt; have := B1.out.size; omega); clear xu1 hu1; obtain ⟨c0, c1, c2, c3, c4⟩ := SO.out _ T2.out.bl; obtain ⟨b0, b1, b2, b3, bl⟩ := T2.out.bx.pool)
    | fail)
  clear T1 O1 B1 HZ1 XZ1 XP1
  have HS := Lib.hid (pstep_is 2 8 6 8 3 (some ⟨g2, 0, none⟩) 6 p2 [2, 0, 0, 0, 0, 0] 0 0 2 0 1 0 u2 (by omega) rfl awP.some R2.out (Rd.own T2.out.ow) ⟨by omega, awP2.2.2.1, by decide, rfl, by decide, by decide⟩ (z := 3) (qs := [2, 1, 0, 0, 0, 0]) (k0 := 3) (k1 := 0) (k2 := 2) rfl rfl rfl rfl rfl)
  refine HS.out.mono ?_
  rintro e v2 ⟨g3, p3, rfl, own2, hb2⟩
  have O2 := Lib.hid own2
  have B2 := Lib.hid hb2
  clear c0 c1 c2 c3 c4 b0 b1 b2 b3 bl own2 hb2 HS
  go_wp2_with (first
    | ((with_reducible refine wpList_pat_alloc (o := ⟨_, .alloc _, _, _, _, _⟩) rfl rfl ?_); intro y2 x2 hy2 hs2; clear hs2)
    | ((with_reducible refine wpList_pat_store (o := ⟨none, .store _ _ _, _, _, _, _⟩) rfl _ _ rfl _ 3 0 0 0 rfl rfl x2 ?_); intro z2 xz2 hz2; have HZ2 := Lib.hid (hy2.grown hz2 hy2.size (fun k hk => by injection hk with hk; omega)); have XZ2 := Lib.hid xz2; have XP2 := Lib.hid ((T2.out.bx.on B2.out).on HZ2.out); clear x2 xz2 hy2 hz2)
    | ((with_reducible refine wpList_pool_store (o := ⟨none, .store _ _ _, _, _, _, _⟩) rfl _ _ rfl _ (some ⟨g3, 0, none⟩) (some ⟨g2, 0, none⟩) 6 6 p3 p2 3 0 2 0 0 2 rfl rfl XP2.out ?_); intro u3 xu2 hu2; have T3 := Lib.hid (T2.out.put B2.out O2.out HZ2.out xu2 hu2); have XA2 := Lib.hid (XZ2.out.grown hu2 (by have := T2.out.bx.lt; have := B2.out.size; omega)); have XA0 := Lib.hid (((XA0.out.on B2.out).on HZ2.out).grown hu2 NE0.out); have XA1 := Lib.hid (((XA1.out.on B2.out).on HZ2.out).grown hu2 NE1.out); have NE2 := Lib.hid (show v2.heap.size ≠ bp by have := T2.out.bx.lt; have := B2.out.size; omega); clear xu2 hu2; obtain ⟨c0, c1, c2, c3, c4⟩ := SO.out _ T3.out.bl; obtain ⟨b0, b1, b2, b3, bl⟩ := T3.out.bx.pool; obtain ⟨r0, r0'⟩ := XA0.out.at2; obtain ⟨r1, r1'⟩ := XA1.out.at2; obtain ⟨r2, r2'⟩ := XA2.out.at2)
    | fail)
  clear T2 O2 B2 HZ2 XZ2 XP2
  have HF := Lib.hid (pfree_any 2 8 6 8 3 (some ⟨g3, 0, none⟩) 6 p3 [2, 1, 0, 0, 0, 0] 3 0 2 u3 (by omega) rfl awP.some (Rd.own T3.out.ow))
  rw [awP2.2.2.2] at HF
  refine HF.out.mono ?_
  rintro e u4 ⟨V, rfl, own4, hb4⟩
  obtain ⟨A4, c4', rfl⟩ := own_slice own4
  have T4 := Lib.hid (T3.out.on hb4)
  clear c0 c1 c2 c3 c4 b0 b1 b2 b3 bl r0 r0' r1 r1' r2 r2' own4 hb4 HF T3
  have HR := Lib.hid (proom_head 2 8 6 8 3 (some ⟨g3, 0, none⟩) 6 p3 [2, 1, 0, 0, 0, 0] 3 0 2 2 0 u4 (by omega) rfl awP.some (by omega) (by omega) rfl (by decide) (by decide) (Rd.own T4.out.ow))
  rw [show (8 : Int) - [(2 : Int), 1, 0, 0, 0, 0].getD 0 0 = 6 from rfl] at HR
  obtain ⟨c0, c1, c2, c3, c4⟩ := SO.out _ T4.out.bl
  obtain ⟨b0, b1, b2, b3, bl⟩ := T4.out.bx.pool
  go_wp2_with fail
  refine HR.out.mono ?_
  rintro e u5 ⟨rfl, hb5⟩
  have T5 := Lib.hid (T4.out.on hb5)
  clear c0 c1 c2 c3 c4 b0 b1 b2 b3 bl hb5 HR T4
  go_wp2
  go_ret
  exact ⟨rfl, H1.out.2.trans (T5.out.bl.mono H1.out.2.size)⟩
end Go.Proofs.Ytnpnnejopibjcaa

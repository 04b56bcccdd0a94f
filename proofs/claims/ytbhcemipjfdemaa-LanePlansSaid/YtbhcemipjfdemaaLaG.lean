/-
  The document's answer for layer 12: Fits, Moves.
-/
import Derived.Test.YtbhcemipjfdemaaLaF
namespace Go.Proofs.Ytbhcemipjfdemaa
open Go.RowKit Geom Leaf Pol
set_option linter.unusedVariables false

def MeetS (A : Nat → Option Addr → Nat → Value → Option Addr → Nat → Act) (R : World → Nat → Option Addr → Nat → Prop) : Exit → Act → World → Prop
  | .normal, a, w => ∃ b As cs V A7 c7, R w b A7 c7 ∧ a = A b As cs V A7 c7
  | _, _, _ => False
theorem wp_meetS {P : Program} {c : Code} {Q : Exit → Act → World → Prop} {a : Act} {w : World} {A : Nat → Option Addr → Nat → Value → Option Addr → Nat → Act} (R : World → Nat → Option Addr → Nat → Prop) (h : c.wp P (MeetS A R) a w) (h2 : ∀ w' b As cs V A7 c7, R w' b A7 c7 → Q .normal (A b As cs V A7 c7) w') : c.wp P Q a w :=
  Code.wp_mono (fun e a' w' hm => by
    cases e <;> first | exact (hm : False).elim | (obtain ⟨b, As, cs, V, A7, c7, hr, rfl⟩ := (hm : ∃ b As cs V A7 c7, R w' b A7 c7 ∧ a' = A b As cs V A7 c7); exact h2 _ b As cs V A7 c7 hr)) h
/-- four stores into a pool's variable -/
theorem pchain {W wr : World} {bp n2 c2 : Nat} {A2 : Option Addr} {m0 m1 m2 : Int} (XP : Box W bp 27 (plcs none 0 0 0 0 0)) (B : Below wr.heap.size wr W) (hb : wr.heap.size ≤ bp) :
    ((W.cell? ⟨bp, 0, none⟩ = some (.slice none 0 0) ∧ W.frozen? ⟨bp, 0, none⟩ = false) ∧ ((W.setCell ⟨bp, 0, none⟩ (.slice A2 n2 c2)).cell? ⟨bp, 1, none⟩ = some (.int .i64 0) ∧ (W.setCell ⟨bp, 0, none⟩ (.slice A2 n2 c2)).frozen? ⟨bp, 1, none⟩ = false) ∧ (((W.setCell ⟨bp, 0, none⟩ (.slice A2 n2 c2)).setCell ⟨bp, 1, none⟩ (.int .i64 m0)).cell? ⟨bp, 2, none⟩ = some (.int .i64 0) ∧ ((W.setCell ⟨bp, 0, none⟩ (.slice A2 n2 c2)).setCell ⟨bp, 1, none⟩ (.int .i64 m0)).frozen? ⟨bp, 2, none⟩ = false) ∧ ((((W.setCell ⟨bp, 0, none⟩ (.slice A2 n2 c2)).setCell ⟨bp, 1, none⟩ (.int .i64 m0)).setCell ⟨bp, 2, none⟩ (.int .i64 m1)).cell? ⟨bp, 3, none⟩ = some (.int .i64 0) ∧ (((W.setCell ⟨bp, 0, none⟩ (.slice A2 n2 c2)).setCell ⟨bp, 1, none⟩ (.int .i64 m0)).setCell ⟨bp, 2, none⟩ (.int .i64 m1)).frozen? ⟨bp, 3, none⟩ = false)) ∧
    Box ((((W.setCell ⟨bp, 0, none⟩ (.slice A2 n2 c2)).setCell ⟨bp, 1, none⟩ (.int .i64 m0)).setCell ⟨bp, 2, none⟩ (.int .i64 m1)).setCell ⟨bp, 3, none⟩ (.int .i64 m2)) bp 27 (plcs A2 n2 c2 m0 m1 m2) ∧ Below wr.heap.size wr ((((W.setCell ⟨bp, 0, none⟩ (.slice A2 n2 c2)).setCell ⟨bp, 1, none⟩ (.int .i64 m0)).setCell ⟨bp, 2, none⟩ (.int .i64 m1)).setCell ⟨bp, 3, none⟩ (.int .i64 m2)) ∧
    (∀ (base m : Nat) (v : Value) (xs : List Value), W.ownsRow base 3 1 v m xs → ((((W.setCell ⟨bp, 0, none⟩ (.slice A2 n2 c2)).setCell ⟨bp, 1, none⟩ (.int .i64 m0)).setCell ⟨bp, 2, none⟩ (.int .i64 m1)).setCell ⟨bp, 3, none⟩ (.int .i64 m2)).ownsRow base 3 1 v m xs) := by
  have X1 : Box (W.setCell ⟨bp, 0, none⟩ (.slice A2 n2 c2)) bp 27 (plcs A2 n2 c2 0 0 0) := XP.set 0 _
  have X2 : Box ((W.setCell ⟨bp, 0, none⟩ (.slice A2 n2 c2)).setCell ⟨bp, 1, none⟩ (.int .i64 m0)) bp 27 (plcs A2 n2 c2 m0 0 0) := X1.set 1 _
  have X3 : Box (((W.setCell ⟨bp, 0, none⟩ (.slice A2 n2 c2)).setCell ⟨bp, 1, none⟩ (.int .i64 m0)).setCell ⟨bp, 2, none⟩ (.int .i64 m1)) bp 27 (plcs A2 n2 c2 m0 m1 0) := X2.set 2 _
  have X4 : Box ((((W.setCell ⟨bp, 0, none⟩ (.slice A2 n2 c2)).setCell ⟨bp, 1, none⟩ (.int .i64 m0)).setCell ⟨bp, 2, none⟩ (.int .i64 m1)).setCell ⟨bp, 3, none⟩ (.int .i64 m2)) bp 27 (plcs A2 n2 c2 m0 m1 m2) := X3.set 3 _
  have g0 := pgrown_cell W ⟨bp, 0, none⟩ (.slice A2 n2 c2)
  have g1 := pgrown_cell (W.setCell ⟨bp, 0, none⟩ (.slice A2 n2 c2)) ⟨bp, 1, none⟩ (.int .i64 m0)
  have g2 := pgrown_cell ((W.setCell ⟨bp, 0, none⟩ (.slice A2 n2 c2)).setCell ⟨bp, 1, none⟩ (.int .i64 m0)) ⟨bp, 2, none⟩ (.int .i64 m1)
  have g3 := pgrown_cell (((W.setCell ⟨bp, 0, none⟩ (.slice A2 n2 c2)).setCell ⟨bp, 1, none⟩ (.int .i64 m0)).setCell ⟨bp, 2, none⟩ (.int .i64 m1)) ⟨bp, 3, none⟩ (.int .i64 m2)
  have B1 := B.setCell (p := ⟨bp, 0, none⟩) hb (.slice A2 n2 c2)
  have B2 := B1.setCell (p := ⟨bp, 1, none⟩) hb (.int .i64 m0)
  have B3 := B2.setCell (p := ⟨bp, 2, none⟩) hb (.int .i64 m1)
  have B4 := B3.setCell (p := ⟨bp, 3, none⟩) hb (.int .i64 m2)
  refine ⟨⟨⟨XP.cell 0, XP.frozen 0⟩, ⟨X1.cell 1, X1.frozen 1⟩, ⟨X2.cell 2, X2.frozen 2⟩, ⟨X3.cell 3, X3.frozen 3⟩⟩, X4, B4, fun base m v xs O => ?_⟩
  have O1 := own_var O XP (by decide) g0
  have O2 := own_var O1 X1 (by decide) g1
  have O3 := own_var O2 X2 (by decide) g2
  exact own_var O3 X3 (by decide) g3
theorem RowQ.fin {w w7 W4 : World} {B : Nat} {A0 A : Option Addr} {n c : Nat} {qs : List Int} (h : RowQ B w7 A0 A n c qs) (hA : ∀ ad, A0 = some ad → ad.block < w.heap.size) (B7 : Below w.heap.size w w7) (B4 : Below w.heap.size w W4)
    (hO : ∀ (base m : Nat) (v : Value) (xs : List Value), w7.ownsRow base 3 1 v m xs → W4.ownsRow base 3 1 v m xs) : Rd W4 W4.heap.size A (is qs) := by
  rcases h with ⟨rfl, h⟩ | ⟨g, rfl, h⟩
  · intro hne
    obtain ⟨ad, rfl, _, hc⟩ := h hne
    have hlt := hA ad rfl
    refine ⟨ad, rfl, Nat.lt_of_lt_of_le hlt B4.size, fun j u hj => ?_⟩
    have hb : (ad.add j).block < w.heap.size := by rw [addr_add_block]; exact hlt
    rw [B4.cell hb, ← B7.cell hb]
    exact hc j u hj
  · exact Rd.own (hO _ _ _ _ h)
theorem isn_rep3 (s a b : Nat) : is (List.replicate a (s : Int) ++ List.replicate b (2 : Int)) = isn (List.replicate a s ++ List.replicate b 2) := by
  rw [pis_append]
  exact isn_rep2 s a b
theorem seats {conv seq size : Int} (S : Some conv seq size) : 0 ≤ seq * size ∧ seq * size ≤ 16384 := by
  obtain ⟨q1, q2, q3, q4, q5⟩ := S
  have h1 : 0 ≤ seq * size := Int.mul_nonneg (by omega) (by omega)
  have h2 : seq * size ≤ 64 * 256 := Int.mul_le_mul (by omega) q5 (by omega) (by omega)
  exact ⟨h1, by omega⟩
section
variable (conv soft seq size opn : Int) (A : Option Addr) (n cap : Nat) (p : PS)
set_option maxRecDepth 100000 in
set_option maxHeartbeats 16000000 in
theorem rlfits_any (a b : Nat) (w : World) (hm : n ≤ 64) (hn : p.ps.length = n) (S : Some conv seq size) (R : Rt conv seq size p) (ha : a ≤ 10000) (hb : b ≤ 10000) (hr : Rd w w.heap.size A (is p.ps)) :
    Calls Try.prog 22 #[pgv conv soft seq size opn, ppv A n cap p.h0 p.h1 p.h2, .int .i64 a, .int .i64 b] w fun e w' => e = .returned (.bool (fitsB conv size p a b)) ∧ Below w.heap.size w w' := by
  have H0 := Lib.hid (GP.new w conv soft seq size opn A n cap p.h0 p.h1 p.h2 23 27)
  have hp : 0 < n := by have := Ri.len R; have := S.2.1; omega
  have hA0 : ∀ ad, A = some ad → ad.block < w.heap.size := by
    obtain ⟨ad, rfl, hlt, _⟩ := hr.point (k := 0) (by omega)
    rintro ad' h
    injection h with h
    rw [← h]
    exact hlt
  have HA0 := Lib.hid hA0
  have HSo : Hid (∀ w', Calls Try.prog 34 #[.int .i64 0, .int .i64 a, .int .i64 2, .int .i64 b] w' fun e w'' => ∃ As cs, e = .returned (.slice As (a + b) cs) ∧ w''.ownsRow w'.heap.size 3 1 (.slice As (a + b) cs) (a + b) (isn (List.replicate a 0 ++ List.replicate b 2)) ∧ Below w'.heap.size w' w'') := Lib.hid fun w' => by
    have h := rsome_any ((0 : Nat) : Int) 2 a b w' ha hb
    rw [isn_rep3] at h
    exact h
  have hPl := fun w' As cs (h : GP w w' conv soft seq size opn A n cap p.h0 p.h1 p.h2) hs => rlplan_any conv soft seq size opn A n cap p.ps p.h0 p.h1 p.h2 As (a + b) cs (List.replicate a 0 ++ List.replicate b 2) w' hm hn S R (hr.gp h) (rep_lt (by omega)) (by simp) (by omega) hs
  have e : (⟨p.ps, p.h0, p.h1, p.h2⟩ : PS) = p := rfl
  rw [e] at hPl
  have HLe : Hid (∀ r, planX conv size (List.replicate a 0 ++ List.replicate b 2) p = some r → ((a + b : Int) : Int) ≤ seq * size ∧ Rt conv seq size r.2 ∧ r.2.ps.length = n) := Lib.hid fun r h => by
    obtain ⟨l, q⟩ := r
    have h1 := plan_le S R (rep_lt (by omega)) h
    have h2 := plan_rt S _ p R (rep_lt (by omega)) l q h
    exact ⟨by simpa using h1, h2.1, h2.2.1.trans hn⟩
  have HV : Hid (fitsB conv size p a b = (match planX conv size (List.replicate a 0 ++ List.replicate b 2) p with | none => false | some r => decide (keepN conv size r.2 ≤ (fr conv r.2 : Int)))) := Lib.hid rfl
  have HS := Lib.hid S
  have HM := Lib.hid hm
  obtain ⟨hb0, hb1⟩ := seats S
  have hw1 := IntWalk.i64_in (seq * size) (by omega)
  clear hr S R hn hm e hp hA0
  generalize planX conv size (List.replicate a 0 ++ List.replicate b 2) p = res at *
  generalize fitsB conv size p a b = bv at *
  generalize p.h0 = h0 at *
  generalize p.h1 = h1 at *
  generalize p.h2 = h2 at *
  by_cases hbig : seq * size < (a : Int) + (b : Int)
  · have hd : decide (seq * size < (a : Int) + (b : Int)) = true := decide_eq_true hbig
    have HF : Hid (bv = false) := Lib.hid (by
      rw [HV.out]
      cases res with
      | none => rfl
      | some r =>
        have := (HLe.out r rfl).1
        omega)
    go_enter Try.func22, Try.ntmps22
    go_wp2_with fail
    generalize World.alloc _ _ = w0 at H0 ⊢
    obtain ⟨c0, c1, c2, c3, c4, cl⟩ := id H0.out.1
    go_wp2
    go_ret
    exact ⟨ret_bool HF.out, H0.out.2.2⟩
  have hd : decide (seq * size < (a : Int) + (b : Int)) = false := decide_eq_false hbig
  cases res with
  | none =>
    have HPl := Lib.hid fun w' As cs h hs => (hPl w' As cs h hs).mono fun e w'' (h : (_ ∧ _) ∨ _) => (show e = .returned (.tuple #[.slice none 0 0, ppv A n cap h0 h1 h2, .bool false]) ∧ Below w'.heap.size w' w'' from by
      rcases h with h | ⟨l, q, h, _⟩
      · exact h.2
      · cases h)
    have HF : Hid (bv = false) := Lib.hid HV.out
    clear hPl
    go_enter Try.func22, Try.ntmps22
    go_wp2_with fail
    generalize World.alloc _ _ = w0 at H0 ⊢
    have HG := H0
    clear H0
    have SO := Lib.hid fun w' (h : Below w0.heap.size w0 w') => (fun (g : GP w w' conv soft seq size opn A n cap h0 h1 h2) => (⟨g.1.1, g.1.2.1, g.1.2.2.1, g.1.2.2.2.1, g.1.2.2.2.2.1, g.2.1.1, g.2.1.2.1, g.2.1.2.2.1, g.2.1.2.2.2.1⟩ :
      w'.cell? ⟨w.heap.size, 0, none⟩ = some (.int .i64 conv) ∧ w'.cell? ⟨w.heap.size, 1, none⟩ = some (.int .i64 soft) ∧ w'.cell? ⟨w.heap.size, 2, none⟩ = some (.int .i64 seq) ∧ w'.cell? ⟨w.heap.size, 3, none⟩ = some (.int .i64 size) ∧ w'.cell? ⟨w.heap.size, 4, none⟩ = some (.int .i64 opn) ∧ w'.cell? ⟨w.heap.size + 1, 0, none⟩ = some (.slice A n cap) ∧ w'.cell? ⟨w.heap.size + 1, 1, none⟩ = some (.int .i64 h0) ∧ w'.cell? ⟨w.heap.size + 1, 2, none⟩ = some (.int .i64 h1) ∧ w'.cell? ⟨w.heap.size + 1, 3, none⟩ = some (.int .i64 h2))) (GP.below HG.out h)
    obtain ⟨c0, c1, c2, c3, c4, a0, a1, a2, a3⟩ := SO.out w0 (Below.refl _ _)
    go_wp2_with fail
    apply wp_meetS (fun w' b A7 c7 => GP w w' conv soft seq size opn A n cap h0 h1 h2)
    · go_region_held3 (fun w' => w'.cell? ⟨w.heap.size, 0, none⟩ = some (.int .i64 conv) ∧ w'.cell? ⟨w.heap.size, 1, none⟩ = some (.int .i64 soft) ∧ w'.cell? ⟨w.heap.size, 2, none⟩ = some (.int .i64 seq) ∧ w'.cell? ⟨w.heap.size, 3, none⟩ = some (.int .i64 size) ∧ w'.cell? ⟨w.heap.size, 4, none⟩ = some (.int .i64 opn) ∧ w'.cell? ⟨w.heap.size + 1, 0, none⟩ = some (.slice A n cap) ∧ w'.cell? ⟨w.heap.size + 1, 1, none⟩ = some (.int .i64 h0) ∧ w'.cell? ⟨w.heap.size + 1, 2, none⟩ = some (.int .i64 h1) ∧ w'.cell? ⟨w.heap.size + 1, 3, none⟩ = some (.int .i64 h2))
        (first | (refine SO.out _ ?_; first | with_reducible exact B7 | with_reducible exact below_alloc1 B7 | with_reducible exact B6 | with_reducible exact below_alloc1 B6 | with_reducible exact BW4 | with_reducible exact (Below.refl _ _).drew | with_reducible exact ((Below.refl _ _).alloc (Nat.le_refl _) _).drew | with_reducible exact (Below.refl _ _).alloc (Nat.le_refl _) _))
        ((first
          | ((with_reducible refine (HSo.out w0.drew).mono ?_); rintro e w6 ⟨As, cs, rfl, own6, hb6⟩; have B6 : Below w0.heap.size w0 w6 := bthen (Below.refl _ _).drew hb6; have RS6 := Rd.own own6)
          | ((with_reducible refine (HSo.out (w0.alloc (.cells #[.slice none 0 0, .int .i64 0, .int .i64 0, .int .i64 0] 27)).drew).mono ?_); rintro e w6 ⟨As, cs, rfl, own6, hb6⟩; have B6 : Below w0.heap.size w0 w6 := bthen ((Below.refl _ _).alloc (Nat.le_refl _) _).drew hb6; have RS6 := Rd.own own6; have XP6 : Box w6 w0.heap.size 27 (plcs none 0 0 0 0 0) := (Box.new w0 27 (plcs none 0 0 0 0 0)).drew1.on hb6)
          | ((with_reducible refine (HPl.out w6 As cs (GP.below HG.out B6) RS6).mono ?_); have XP6' := XP6; rintro e w7 ⟨rfl, hb7⟩; have B7 : Below w0.heap.size w0 w7 := bthen B6 hb7; have XP7 := XP6.on hb7; have q4 := pchain (A2 := A) (n2 := n) (c2 := cap) (m0 := h0) (m1 := h1) (m2 := h2) (W := w7) XP7 B7 (Nat.le_refl _); obtain ⟨⟨⟨yp0, fp0⟩, ⟨yp1, fp1⟩, ⟨yp2, fp2⟩, ⟨yp3, fp3⟩⟩, XP4, BW4, OW4⟩ := q4)
          | ((with_reducible refine (HPl.out (w6.alloc (.cells #[.slice none 0 0, .int .i64 0, .int .i64 0, .int .i64 0] 27)) As cs (GP.below HG.out (below_alloc1 B6)) ((RS6.alloc (Nat.le_refl _) _).more (by simp))).mono ?_); rintro e w7 ⟨rfl, hb7⟩; have B7 : Below w0.heap.size w0 w7 := bthen (below_alloc1 B6) hb7; have XP7 := (Box.new w6 27 (plcs none 0 0 0 0 0)).on hb7; have q4 := pchain (A2 := A) (n2 := n) (c2 := cap) (m0 := h0) (m1 := h1) (m2 := h2) (W := w7) XP7 B7 B6.size; obtain ⟨⟨⟨yp0, fp0⟩, ⟨yp1, fp1⟩, ⟨yp2, fp2⟩, ⟨yp3, fp3⟩⟩, XP4, BW4, OW4⟩ := q4)
          | ((with_reducible refine (HPl.out w6 As cs (GP.below HG.out B6) RS6).mono ?_); rintro e w7 ⟨rfl, hb7⟩; have B7 : Below w0.heap.size w0 w7 := bthen B6 hb7)
          | fail))
      · have PO := Box.new w7 27 (plcs A n cap h0 h1 h2)
        have F := GP.below HG.out (below_alloc1 (o := .cells #[.slice A n cap, .int .i64 h0, .int .i64 h1, .int .i64 h2] 27) B7)
        clear PO B7 B6 RS6 own6
        generalize World.alloc _ _ = w9 at F ⊢
        generalize w7.heap.size = l1 at F ⊢
        obtain ⟨A8, c8, V8, _⟩ : ∃ (a : Option Addr) (c : Nat) (v : Value), True := ⟨none, 0, .bool true, trivial⟩
        exact ⟨l1, As, cs, V8, A8, c8, F, rfl⟩
      · have F := GP.below HG.out (BW4)
        clear yp0 fp0 yp1 fp1 yp2 fp2 yp3 fp3 XP4 BW4 OW4 XP7 B7 B6 RS6 own6
        generalize World.setCell _ _ _ = w9 at F ⊢
        generalize w6.heap.size = l1 at F ⊢
        obtain ⟨A8, c8, V8, _⟩ : ∃ (a : Option Addr) (c : Nat) (v : Value), True := ⟨none, 0, .bool true, trivial⟩
        exact ⟨l1, As, cs, V8, A8, c8, F, rfl⟩
      · have F := GP.below HG.out (BW4)
        clear yp0 fp0 yp1 fp1 yp2 fp2 yp3 fp3 XP4 BW4 OW4 XP7 B7 B6 RS6 own6
        generalize World.setCell _ _ _ = w9 at F ⊢
        generalize w0.heap.size = l1 at F ⊢
        obtain ⟨A8, c8, V8, _⟩ : ∃ (a : Option Addr) (c : Nat) (v : Value), True := ⟨none, 0, .bool true, trivial⟩
        exact ⟨l1, As, cs, V8, A8, c8, F, rfl⟩
    rintro w8 bx As cs V A7 c7 hG8
    have H8 := Lib.hid hG8
    clear hG8 c0 c1 c2 c3 c4 a0 a1 a2 a3 SO HG HPl HSo
    go_wp2_with fail
    go_quiet (fail)
    have H9 := Lib.hid (below_draws H8.out.2.2 nq)
    go_wp2
    go_ret
    exact ⟨ret_bool HF.out, H9.out⟩
  | some r =>
    obtain ⟨l, q⟩ := r
    have HPl := Lib.hid fun w' As cs h hs => (hPl w' As cs h hs).mono fun e w'' (h : (_ ∧ _) ∨ _) => (show ∃ V A7 c7, e = .returned (.tuple #[V, ppv A7 n c7 q.h0 q.h1 q.h2, .bool true]) ∧ RowQ w'.heap.size w'' A A7 n c7 q.ps ∧ Below w'.heap.size w' w'' from by
      rcases h with ⟨h, _⟩ | ⟨l2, q2, h, V, A', c, h1, h2, h3, h4⟩
      · cases h
      · cases h
        exact ⟨V, A', c, h1, h3, h4⟩)
    clear hPl
    obtain ⟨_, hq1, hq2⟩ := HLe.out _ rfl
    have HQ := Lib.hid (And.intro hq1 hq2)
    have HB0 := Lib.hid H0.out.2.2
    clear hq1 hq2
    have HKe := Lib.hid fun w' A' c' => rlkeep_any conv soft seq size opn A' n c' q w' HS.out HQ.out.1
    have HZo := Lib.hid fun w' A' c' h => rpzones_any conv soft seq size opn A' n c' q.ps q.h0 q.h1 q.h2 0 w' HM.out HQ.out.2 HS.out h
    have hk12 := keep_one conv size q
    have hfl : fr conv q ≤ 64 := Nat.le_trans (fr_le conv n q HQ.out.2) HM.out
    have efr : (zonF conv q.ps 0 q.h0 q.h1 q.h2 n).length = fr conv q := by rw [zonF_free]; unfold fr nfr; rw [HQ.out.2]
    rw [efr] at HZo
    have HF : Hid (bv = decide (keepN conv size q ≤ (fr conv q : Int))) := Lib.hid HV.out
    generalize zonF conv q.ps 0 q.h0 q.h1 q.h2 n = zf at *
    generalize keepN conv size q = kp at *
    generalize fr conv q = f at *
    generalize hk0 : q.h0 = k0 at *
    generalize hk1 : q.h1 = k1 at *
    generalize hk2 : q.h2 = k2 at *
    clear hk0 hk1 hk2
    clear HV HLe efr
    go_enter Try.func22, Try.ntmps22
    go_wp2_with fail
    generalize World.alloc _ _ = w0 at H0 ⊢
    have HG := H0
    clear H0
    have SO := Lib.hid fun w' (h : Below w0.heap.size w0 w') => (fun (g : GP w w' conv soft seq size opn A n cap h0 h1 h2) => (⟨g.1.1, g.1.2.1, g.1.2.2.1, g.1.2.2.2.1, g.1.2.2.2.2.1, g.2.1.1, g.2.1.2.1, g.2.1.2.2.1, g.2.1.2.2.2.1⟩ :
      w'.cell? ⟨w.heap.size, 0, none⟩ = some (.int .i64 conv) ∧ w'.cell? ⟨w.heap.size, 1, none⟩ = some (.int .i64 soft) ∧ w'.cell? ⟨w.heap.size, 2, none⟩ = some (.int .i64 seq) ∧ w'.cell? ⟨w.heap.size, 3, none⟩ = some (.int .i64 size) ∧ w'.cell? ⟨w.heap.size, 4, none⟩ = some (.int .i64 opn) ∧ w'.cell? ⟨w.heap.size + 1, 0, none⟩ = some (.slice A n cap) ∧ w'.cell? ⟨w.heap.size + 1, 1, none⟩ = some (.int .i64 h0) ∧ w'.cell? ⟨w.heap.size + 1, 2, none⟩ = some (.int .i64 h1) ∧ w'.cell? ⟨w.heap.size + 1, 3, none⟩ = some (.int .i64 h2))) (GP.below HG.out h)
    obtain ⟨c0, c1, c2, c3, c4, a0, a1, a2, a3⟩ := SO.out w0 (Below.refl _ _)
    go_wp2_with fail
    apply wp_meetS (fun w' b A7 c7 => GP w w' conv soft seq size opn A n cap h0 h1 h2 ∧ Box w' b 27 (plcs A7 n c7 k0 k1 k2) ∧ Rd w' w'.heap.size A7 (is q.ps))
    · go_region_held3 (fun w' => w'.cell? ⟨w.heap.size, 0, none⟩ = some (.int .i64 conv) ∧ w'.cell? ⟨w.heap.size, 1, none⟩ = some (.int .i64 soft) ∧ w'.cell? ⟨w.heap.size, 2, none⟩ = some (.int .i64 seq) ∧ w'.cell? ⟨w.heap.size, 3, none⟩ = some (.int .i64 size) ∧ w'.cell? ⟨w.heap.size, 4, none⟩ = some (.int .i64 opn) ∧ w'.cell? ⟨w.heap.size + 1, 0, none⟩ = some (.slice A n cap) ∧ w'.cell? ⟨w.heap.size + 1, 1, none⟩ = some (.int .i64 h0) ∧ w'.cell? ⟨w.heap.size + 1, 2, none⟩ = some (.int .i64 h1) ∧ w'.cell? ⟨w.heap.size + 1, 3, none⟩ = some (.int .i64 h2))
        (first | (refine SO.out _ ?_; first | with_reducible exact B7 | with_reducible exact below_alloc1 B7 | with_reducible exact B6 | with_reducible exact below_alloc1 B6 | with_reducible exact BW4 | with_reducible exact (Below.refl _ _).drew | with_reducible exact ((Below.refl _ _).alloc (Nat.le_refl _) _).drew | with_reducible exact (Below.refl _ _).alloc (Nat.le_refl _) _))
        ((first
          | ((with_reducible refine (HSo.out w0.drew).mono ?_); rintro e w6 ⟨As, cs, rfl, own6, hb6⟩; have B6 : Below w0.heap.size w0 w6 := bthen (Below.refl _ _).drew hb6; have RS6 := Rd.own own6)
          | ((with_reducible refine (HSo.out (w0.alloc (.cells #[.slice none 0 0, .int .i64 0, .int .i64 0, .int .i64 0] 27)).drew).mono ?_); rintro e w6 ⟨As, cs, rfl, own6, hb6⟩; have B6 : Below w0.heap.size w0 w6 := bthen ((Below.refl _ _).alloc (Nat.le_refl _) _).drew hb6; have RS6 := Rd.own own6; have XP6 : Box w6 w0.heap.size 27 (plcs none 0 0 0 0 0) := (Box.new w0 27 (plcs none 0 0 0 0 0)).drew1.on hb6)
          | ((with_reducible refine (HPl.out w6 As cs (GP.below HG.out B6) RS6).mono ?_); have XP6' := XP6; rintro e w7 ⟨V7, A7, c7, rfl, row7, hb7⟩; have B7 : Below w0.heap.size w0 w7 := bthen B6 hb7; have XP7 := XP6.on hb7; have q4 := pchain (A2 := A7) (n2 := n) (c2 := c7) (m0 := k0) (m1 := k1) (m2 := k2) (W := w7) XP7 B7 (Nat.le_refl _); obtain ⟨⟨⟨yp0, fp0⟩, ⟨yp1, fp1⟩, ⟨yp2, fp2⟩, ⟨yp3, fp3⟩⟩, XP4, BW4, OW4⟩ := q4)
          | ((with_reducible refine (HPl.out (w6.alloc (.cells #[.slice none 0 0, .int .i64 0, .int .i64 0, .int .i64 0] 27)) As cs (GP.below HG.out (below_alloc1 B6)) ((RS6.alloc (Nat.le_refl _) _).more (by simp))).mono ?_); rintro e w7 ⟨V7, A7, c7, rfl, row7, hb7⟩; have B7 : Below w0.heap.size w0 w7 := bthen (below_alloc1 B6) hb7; have XP7 := (Box.new w6 27 (plcs none 0 0 0 0 0)).on hb7; have q4 := pchain (A2 := A7) (n2 := n) (c2 := c7) (m0 := k0) (m1 := k1) (m2 := k2) (W := w7) XP7 B7 B6.size; obtain ⟨⟨⟨yp0, fp0⟩, ⟨yp1, fp1⟩, ⟨yp2, fp2⟩, ⟨yp3, fp3⟩⟩, XP4, BW4, OW4⟩ := q4)
          | ((with_reducible refine (HPl.out w6 As cs (GP.below HG.out B6) RS6).mono ?_); rintro e w7 ⟨V7, A7, c7, rfl, row7, hb7⟩; have B7 : Below w0.heap.size w0 w7 := bthen B6 hb7)
          | fail))
      · have PO := Box.new w7 27 (plcs A7 n c7 k0 k1 k2)
        have F := And.intro (GP.below HG.out (below_alloc1 (o := .cells #[.slice A7 n c7, .int .i64 k0, .int .i64 k1, .int .i64 k2] 27) B7)) (And.intro PO (row7.fin HA0.out (GP.below HG.out B7).2.2 (GP.below HG.out (below_alloc1 (o := .cells #[.slice A7 n c7, .int .i64 k0, .int .i64 k1, .int .i64 k2] 27) B7)).2.2 (fun base m v xs O => O.alloc _)))
        clear PO row7 B7 B6 RS6 own6
        generalize World.alloc _ _ = w9 at F ⊢
        generalize w7.heap.size = l1 at F ⊢
        exact ⟨l1, As, cs, V7, A7, c7, F, rfl⟩
      · have F := And.intro (GP.below HG.out (BW4)) (And.intro XP4 (row7.fin HA0.out (GP.below HG.out B7).2.2 (GP.below HG.out (BW4)).2.2 OW4))
        clear yp0 fp0 yp1 fp1 yp2 fp2 yp3 fp3 XP4 BW4 OW4 XP7 row7 B7 B6 RS6 own6
        generalize World.setCell _ _ _ = w9 at F ⊢
        generalize w6.heap.size = l1 at F ⊢
        exact ⟨l1, As, cs, V7, A7, c7, F, rfl⟩
      · have F := And.intro (GP.below HG.out (BW4)) (And.intro XP4 (row7.fin HA0.out (GP.below HG.out B7).2.2 (GP.below HG.out (BW4)).2.2 OW4))
        clear yp0 fp0 yp1 fp1 yp2 fp2 yp3 fp3 XP4 BW4 OW4 XP7 row7 B7 B6 RS6 own6
        generalize World.setCell _ _ _ = w9 at F ⊢
        generalize w0.heap.size = l1 at F ⊢
        exact ⟨l1, As, cs, V7, A7, c7, F, rfl⟩
    rintro w8 bx As cs V A7 c7 ⟨hG8, hX8, hR8⟩
    have H8 := Lib.hid hG8
    have X8 := Lib.hid hX8
    have R8 := Lib.hid hR8
    clear hG8 hX8 hR8 c0 c1 c2 c3 c4 a0 a1 a2 a3 SO HG HPl HSo
    go_wp2_with fail
    have RD := Lib.hid fun w' (h : Below w8.heap.size w8 w') => (R8.out.below h).more h.size
    have SO := Lib.hid fun w' (h : Below w8.heap.size w8 w') => (fun (g : GP w w' conv soft seq size opn A n cap h0 h1 h2) (x : Box w' bx 27 (plcs A7 n c7 k0 k1 k2)) => (⟨g.1.1, g.1.2.1, g.1.2.2.1, g.1.2.2.2.1, g.1.2.2.2.2.1, x.cell 0, x.cell 1, x.cell 2, x.cell 3⟩ :
      w'.cell? ⟨w.heap.size, 0, none⟩ = some (.int .i64 conv) ∧ w'.cell? ⟨w.heap.size, 1, none⟩ = some (.int .i64 soft) ∧ w'.cell? ⟨w.heap.size, 2, none⟩ = some (.int .i64 seq) ∧ w'.cell? ⟨w.heap.size, 3, none⟩ = some (.int .i64 size) ∧ w'.cell? ⟨w.heap.size, 4, none⟩ = some (.int .i64 opn) ∧ w'.cell? ⟨bx, 0, none⟩ = some (.slice A7 n c7) ∧ w'.cell? ⟨bx, 1, none⟩ = some (.int .i64 k0) ∧ w'.cell? ⟨bx, 2, none⟩ = some (.int .i64 k1) ∧ w'.cell? ⟨bx, 3, none⟩ = some (.int .i64 k2))) (GP.below H8.out h) (X8.out.on h)
    go_region_held3 (fun w' => w'.cell? ⟨w.heap.size, 0, none⟩ = some (.int .i64 conv) ∧ w'.cell? ⟨w.heap.size, 1, none⟩ = some (.int .i64 soft) ∧ w'.cell? ⟨w.heap.size, 2, none⟩ = some (.int .i64 seq) ∧ w'.cell? ⟨w.heap.size, 3, none⟩ = some (.int .i64 size) ∧ w'.cell? ⟨w.heap.size, 4, none⟩ = some (.int .i64 opn) ∧ w'.cell? ⟨bx, 0, none⟩ = some (.slice A7 n c7) ∧ w'.cell? ⟨bx, 1, none⟩ = some (.int .i64 k0) ∧ w'.cell? ⟨bx, 2, none⟩ = some (.int .i64 k1) ∧ w'.cell? ⟨bx, 3, none⟩ = some (.int .i64 k2))
      (first | exact SO.out _ B2 | exact SO.out _ B1 | exact SO.out _ (Below.refl _ _).drew)
      ((first
        | ((with_reducible refine (HZo.out _ _ _ (RD.out _ (Below.refl _ _).drew)).mono ?_); rintro e y1 ⟨V1, rfl, o1, b1⟩; obtain ⟨A1, q1, rfl⟩ := own_slice o1; have B1 : Below w8.heap.size w8 y1 := bthen (Below.refl _ _).drew b1)
        | ((with_reducible refine (HKe.out _ _ _).mono ?_); rintro e y2 ⟨rfl, b2⟩; have B2 : Below w8.heap.size w8 y2 := bthen B1 b2)))
    have HFF := Lib.hid (bthen H8.out.2.2 B2)
    go_wp2
    go_ret
    exact ⟨ret_bool HF.out, HFF.out⟩
set_option maxRecDepth 100000 in
set_option maxHeartbeats 16000000 in
theorem rlmoves_any (a : Nat) (w : World) (hm : n ≤ 64) (hn : p.ps.length = n) (S : Some conv seq size) (R : Rt conv seq size p) (ha : a ≤ 10000) (hr : Rd w w.heap.size A (is p.ps)) :
    Calls Try.prog 24 #[pgv conv soft seq size opn, ppv A n cap p.h0 p.h1 p.h2, .int .i64 a] w fun e w' => e = .returned (.bool (movesB conv size p a)) ∧ Below w.heap.size w w' := by
  have H0 := Lib.hid (GP.new w conv soft seq size opn A n cap p.h0 p.h1 p.h2 23 27)
  have hp : 0 < n := by have := Ri.len R; have := S.2.1; omega
  have hA0 : ∀ ad, A = some ad → ad.block < w.heap.size := by
    obtain ⟨ad, rfl, hlt, _⟩ := hr.point (k := 0) (by omega)
    rintro ad' h
    injection h with h
    rw [← h]
    exact hlt
  have HA0 := Lib.hid hA0
  have HSo : Hid (∀ w', Calls Try.prog 34 #[.int .i64 1, .int .i64 a, .int .i64 2, .int .i64 1] w' fun e w'' => ∃ As cs, e = .returned (.slice As (a + 1) cs) ∧ w''.ownsRow w'.heap.size 3 1 (.slice As (a + 1) cs) (a + 1) (isn (List.replicate a 1 ++ List.replicate 1 2)) ∧ Below w'.heap.size w' w'') := Lib.hid fun w' => by
    have h := rsome_any ((1 : Nat) : Int) 2 a 1 w' ha (by omega)
    rw [isn_rep3] at h
    exact h
  have hPl := fun w' As cs (h : GP w w' conv soft seq size opn A n cap p.h0 p.h1 p.h2) hs => rlplan_any conv soft seq size opn A n cap p.ps p.h0 p.h1 p.h2 As (a + 1) cs (List.replicate a 1 ++ List.replicate 1 2) w' hm hn S R (hr.gp h) (rep_lt (by omega)) (by simp) (by omega) hs
  have e : (⟨p.ps, p.h0, p.h1, p.h2⟩ : PS) = p := rfl
  rw [e] at hPl
  have HLe : Hid (∀ r, planX conv size (List.replicate a 1 ++ List.replicate 1 2) p = some r → ((a + 1 : Int) : Int) ≤ seq * size ∧ Rt conv seq size r.2 ∧ r.2.ps.length = n) := Lib.hid fun r h => by
    obtain ⟨l, q⟩ := r
    have h1 := plan_le S R (rep_lt (by omega)) h
    have h2 := plan_rt S _ p R (rep_lt (by omega)) l q h
    exact ⟨by simpa using h1, h2.1, h2.2.1.trans hn⟩
  have HV : Hid (movesB conv size p a = (planX conv size (List.replicate a 1 ++ List.replicate 1 2) p).isSome) := Lib.hid rfl
  have HS := Lib.hid S
  have HM := Lib.hid hm
  obtain ⟨hb0, hb1⟩ := seats S
  have hw1 := IntWalk.i64_in (seq * size) (by omega)
  clear hr S R hn hm e hp hA0
  generalize planX conv size (List.replicate a 1 ++ List.replicate 1 2) p = res at *
  generalize movesB conv size p a = bv at *
  generalize p.h0 = h0 at *
  generalize p.h1 = h1 at *
  generalize p.h2 = h2 at *
  by_cases hbig : seq * size < (a : Int)
  · have hd : decide (seq * size < (a : Int)) = true := decide_eq_true hbig
    have HF : Hid (bv = false) := Lib.hid (by
      rw [HV.out]
      cases res with
      | none => rfl
      | some r =>
        have := (HLe.out r rfl).1
        omega)
    go_enter Try.func24, Try.ntmps24
    go_wp2_with fail
    generalize World.alloc _ _ = w0 at H0 ⊢
    obtain ⟨c0, c1, c2, c3, c4, cl⟩ := id H0.out.1
    go_wp2
    go_ret
    exact ⟨ret_bool HF.out, H0.out.2.2⟩
  have hd : decide (seq * size < (a : Int)) = false := decide_eq_false hbig
  cases res with
  | none =>
    have HPl := Lib.hid fun w' As cs h hs => (hPl w' As cs h hs).mono fun e w'' (h : (_ ∧ _) ∨ _) => (show e = .returned (.tuple #[.slice none 0 0, ppv A n cap h0 h1 h2, .bool false]) ∧ Below w'.heap.size w' w'' from by
      rcases h with h | ⟨l, q, h, _⟩
      · exact h.2
      · cases h)
    have HF : Hid (bv = false) := Lib.hid HV.out
    clear hPl
    go_enter Try.func24, Try.ntmps24
    go_wp2_with fail
    generalize World.alloc _ _ = w0 at H0 ⊢
    have HG := H0
    clear H0
    have SO := Lib.hid fun w' (h : Below w0.heap.size w0 w') => (fun (g : GP w w' conv soft seq size opn A n cap h0 h1 h2) => (⟨g.1.1, g.1.2.1, g.1.2.2.1, g.1.2.2.2.1, g.1.2.2.2.2.1, g.2.1.1, g.2.1.2.1, g.2.1.2.2.1, g.2.1.2.2.2.1⟩ :
      w'.cell? ⟨w.heap.size, 0, none⟩ = some (.int .i64 conv) ∧ w'.cell? ⟨w.heap.size, 1, none⟩ = some (.int .i64 soft) ∧ w'.cell? ⟨w.heap.size, 2, none⟩ = some (.int .i64 seq) ∧ w'.cell? ⟨w.heap.size, 3, none⟩ = some (.int .i64 size) ∧ w'.cell? ⟨w.heap.size, 4, none⟩ = some (.int .i64 opn) ∧ w'.cell? ⟨w.heap.size + 1, 0, none⟩ = some (.slice A n cap) ∧ w'.cell? ⟨w.heap.size + 1, 1, none⟩ = some (.int .i64 h0) ∧ w'.cell? ⟨w.heap.size + 1, 2, none⟩ = some (.int .i64 h1) ∧ w'.cell? ⟨w.heap.size + 1, 3, none⟩ = some (.int .i64 h2))) (GP.below HG.out h)
    obtain ⟨c0, c1, c2, c3, c4, a0, a1, a2, a3⟩ := SO.out w0 (Below.refl _ _)
    go_wp2_with fail
    apply wp_meetS (fun w' b A7 c7 => GP w w' conv soft seq size opn A n cap h0 h1 h2)
    · go_region_held3 (fun w' => w'.cell? ⟨w.heap.size, 0, none⟩ = some (.int .i64 conv) ∧ w'.cell? ⟨w.heap.size, 1, none⟩ = some (.int .i64 soft) ∧ w'.cell? ⟨w.heap.size, 2, none⟩ = some (.int .i64 seq) ∧ w'.cell? ⟨w.heap.size, 3, none⟩ = some (.int .i64 size) ∧ w'.cell? ⟨w.heap.size, 4, none⟩ = some (.int .i64 opn) ∧ w'.cell? ⟨w.heap.size + 1, 0, none⟩ = some (.slice A n cap) ∧ w'.cell? ⟨w.heap.size + 1, 1, none⟩ = some (.int .i64 h0) ∧ w'.cell? ⟨w.heap.size + 1, 2, none⟩ = some (.int .i64 h1) ∧ w'.cell? ⟨w.heap.size + 1, 3, none⟩ = some (.int .i64 h2))
        (first | (refine SO.out _ ?_; first | with_reducible exact B7 | with_reducible exact below_alloc1 B7 | with_reducible exact B6 | with_reducible exact below_alloc1 B6 | with_reducible exact BW4 | with_reducible exact (Below.refl _ _).drew | with_reducible exact ((Below.refl _ _).alloc (Nat.le_refl _) _).drew | with_reducible exact (Below.refl _ _).alloc (Nat.le_refl _) _))
        ((first
          | ((with_reducible refine (HSo.out w0.drew).mono ?_); rintro e w6 ⟨As, cs, rfl, own6, hb6⟩; have B6 : Below w0.heap.size w0 w6 := bthen (Below.refl _ _).drew hb6; have RS6 := Rd.own own6)
          | ((with_reducible refine (HSo.out (w0.alloc (.cells #[.slice none 0 0, .int .i64 0, .int .i64 0, .int .i64 0] 27)).drew).mono ?_); rintro e w6 ⟨As, cs, rfl, own6, hb6⟩; have B6 : Below w0.heap.size w0 w6 := bthen ((Below.refl _ _).alloc (Nat.le_refl _) _).drew hb6; have RS6 := Rd.own own6; have XP6 : Box w6 w0.heap.size 27 (plcs none 0 0 0 0 0) := (Box.new w0 27 (plcs none 0 0 0 0 0)).drew1.on hb6)
          | ((with_reducible refine (HPl.out w6 As cs (GP.below HG.out B6) RS6).mono ?_); have XP6' := XP6; rintro e w7 ⟨rfl, hb7⟩; have B7 : Below w0.heap.size w0 w7 := bthen B6 hb7; have XP7 := XP6.on hb7; have q4 := pchain (A2 := A) (n2 := n) (c2 := cap) (m0 := h0) (m1 := h1) (m2 := h2) (W := w7) XP7 B7 (Nat.le_refl _); obtain ⟨⟨⟨yp0, fp0⟩, ⟨yp1, fp1⟩, ⟨yp2, fp2⟩, ⟨yp3, fp3⟩⟩, XP4, BW4, OW4⟩ := q4)
          | ((with_reducible refine (HPl.out (w6.alloc (.cells #[.slice none 0 0, .int .i64 0, .int .i64 0, .int .i64 0] 27)) As cs (GP.below HG.out (below_alloc1 B6)) ((RS6.alloc (Nat.le_refl _) _).more (by simp))).mono ?_); rintro e w7 ⟨rfl, hb7⟩; have B7 : Below w0.heap.size w0 w7 := bthen (below_alloc1 B6) hb7; have XP7 := (Box.new w6 27 (plcs none 0 0 0 0 0)).on hb7; have q4 := pchain (A2 := A) (n2 := n) (c2 := cap) (m0 := h0) (m1 := h1) (m2 := h2) (W := w7) XP7 B7 B6.size; obtain ⟨⟨⟨yp0, fp0⟩, ⟨yp1, fp1⟩, ⟨yp2, fp2⟩, ⟨yp3, fp3⟩⟩, XP4, BW4, OW4⟩ := q4)
          | ((with_reducible refine (HPl.out w6 As cs (GP.below HG.out B6) RS6).mono ?_); rintro e w7 ⟨rfl, hb7⟩; have B7 : Below w0.heap.size w0 w7 := bthen B6 hb7)
          | fail))
      · have PO := Box.new w7 27 (plcs A n cap h0 h1 h2)
        have F := GP.below HG.out (below_alloc1 (o := .cells #[.slice A n cap, .int .i64 h0, .int .i64 h1, .int .i64 h2] 27) B7)
        clear PO B7 B6 RS6 own6
        generalize World.alloc _ _ = w9 at F ⊢
        generalize w7.heap.size = l1 at F ⊢
        obtain ⟨A8, c8, V8, _⟩ : ∃ (a : Option Addr) (c : Nat) (v : Value), True := ⟨none, 0, .bool true, trivial⟩
        exact ⟨l1, As, cs, V8, A8, c8, F, rfl⟩
      · have F := GP.below HG.out (BW4)
        clear yp0 fp0 yp1 fp1 yp2 fp2 yp3 fp3 XP4 BW4 OW4 XP7 B7 B6 RS6 own6
        generalize World.setCell _ _ _ = w9 at F ⊢
        generalize w6.heap.size = l1 at F ⊢
        obtain ⟨A8, c8, V8, _⟩ : ∃ (a : Option Addr) (c : Nat) (v : Value), True := ⟨none, 0, .bool true, trivial⟩
        exact ⟨l1, As, cs, V8, A8, c8, F, rfl⟩
      · have F := GP.below HG.out (BW4)
        clear yp0 fp0 yp1 fp1 yp2 fp2 yp3 fp3 XP4 BW4 OW4 XP7 B7 B6 RS6 own6
        generalize World.setCell _ _ _ = w9 at F ⊢
        generalize w0.heap.size = l1 at F ⊢
        obtain ⟨A8, c8, V8, _⟩ : ∃ (a : Option Addr) (c : Nat) (v : Value), True := ⟨none, 0, .bool true, trivial⟩
        exact ⟨l1, As, cs, V8, A8, c8, F, rfl⟩
    rintro w8 bx As cs V A7 c7 hG8
    have H8 := Lib.hid hG8
    clear hG8 c0 c1 c2 c3 c4 a0 a1 a2 a3 SO HG HPl HSo
    go_wp2
    go_ret
    exact ⟨ret_bool HF.out, H8.out.2.2⟩
  | some r =>
    obtain ⟨l, q⟩ := r
    have HPl := Lib.hid fun w' As cs h hs => (hPl w' As cs h hs).mono fun e w'' (h : (_ ∧ _) ∨ _) => (show ∃ V A7 c7, e = .returned (.tuple #[V, ppv A7 n c7 q.h0 q.h1 q.h2, .bool true]) ∧ RowQ w'.heap.size w'' A A7 n c7 q.ps ∧ Below w'.heap.size w' w'' from by
      rcases h with ⟨h, _⟩ | ⟨l2, q2, h, V, A', c, h1, h2, h3, h4⟩
      · cases h
      · cases h
        exact ⟨V, A', c, h1, h3, h4⟩)
    clear hPl
    obtain ⟨_, hq1, hq2⟩ := HLe.out _ rfl
    have HQ := Lib.hid (And.intro hq1 hq2)
    have HB0 := Lib.hid H0.out.2.2
    clear hq1 hq2
    have HF : Hid (bv = true) := Lib.hid HV.out
    generalize hk0 : q.h0 = k0 at *
    generalize hk1 : q.h1 = k1 at *
    generalize hk2 : q.h2 = k2 at *
    clear hk0 hk1 hk2
    clear HV HLe
    go_enter Try.func24, Try.ntmps24
    go_wp2_with fail
    generalize World.alloc _ _ = w0 at H0 ⊢
    have HG := H0
    clear H0
    have SO := Lib.hid fun w' (h : Below w0.heap.size w0 w') => (fun (g : GP w w' conv soft seq size opn A n cap h0 h1 h2) => (⟨g.1.1, g.1.2.1, g.1.2.2.1, g.1.2.2.2.1, g.1.2.2.2.2.1, g.2.1.1, g.2.1.2.1, g.2.1.2.2.1, g.2.1.2.2.2.1⟩ :
      w'.cell? ⟨w.heap.size, 0, none⟩ = some (.int .i64 conv) ∧ w'.cell? ⟨w.heap.size, 1, none⟩ = some (.int .i64 soft) ∧ w'.cell? ⟨w.heap.size, 2, none⟩ = some (.int .i64 seq) ∧ w'.cell? ⟨w.heap.size, 3, none⟩ = some (.int .i64 size) ∧ w'.cell? ⟨w.heap.size, 4, none⟩ = some (.int .i64 opn) ∧ w'.cell? ⟨w.heap.size + 1, 0, none⟩ = some (.slice A n cap) ∧ w'.cell? ⟨w.heap.size + 1, 1, none⟩ = some (.int .i64 h0) ∧ w'.cell? ⟨w.heap.size + 1, 2, none⟩ = some (.int .i64 h1) ∧ w'.cell? ⟨w.heap.size + 1, 3, none⟩ = some (.int .i64 h2))) (GP.below HG.out h)
    obtain ⟨c0, c1, c2, c3, c4, a0, a1, a2, a3⟩ := SO.out w0 (Below.refl _ _)
    go_wp2_with fail
    apply wp_meetS (fun w' b A7 c7 => GP w w' conv soft seq size opn A n cap h0 h1 h2 ∧ Box w' b 27 (plcs A7 n c7 k0 k1 k2) ∧ Rd w' w'.heap.size A7 (is q.ps))
    · go_region_held3 (fun w' => w'.cell? ⟨w.heap.size, 0, none⟩ = some (.int .i64 conv) ∧ w'.cell? ⟨w.heap.size, 1, none⟩ = some (.int .i64 soft) ∧ w'.cell? ⟨w.heap.size, 2, none⟩ = some (.int .i64 seq) ∧ w'.cell? ⟨w.heap.size, 3, none⟩ = some (.int .i64 size) ∧ w'.cell? ⟨w.heap.size, 4, none⟩ = some (.int .i64 opn) ∧ w'.cell? ⟨w.heap.size + 1, 0, none⟩ = some (.slice A n cap) ∧ w'.cell? ⟨w.heap.size + 1, 1, none⟩ = some (.int .i64 h0) ∧ w'.cell? ⟨w.heap.size + 1, 2, none⟩ = some (.int .i64 h1) ∧ w'.cell? ⟨w.heap.size + 1, 3, none⟩ = some (.int .i64 h2))
        (first | (refine SO.out _ ?_; first | with_reducible exact B7 | with_reducible exact below_alloc1 B7 | with_reducible exact B6 | with_reducible exact below_alloc1 B6 | with_reducible exact BW4 | with_reducible exact (Below.refl _ _).drew | with_reducible exact ((Below.refl _ _).alloc (Nat.le_refl _) _).drew | with_reducible exact (Below.refl _ _).alloc (Nat.le_refl _) _))
        ((first
          | ((with_reducible refine (HSo.out w0.drew).mono ?_); rintro e w6 ⟨As, cs, rfl, own6, hb6⟩; have B6 : Below w0.heap.size w0 w6 := bthen (Below.refl _ _).drew hb6; have RS6 := Rd.own own6)
          | ((with_reducible refine (HSo.out (w0.alloc (.cells #[.slice none 0 0, .int .i64 0, .int .i64 0, .int .i64 0] 27)).drew).mono ?_); rintro e w6 ⟨As, cs, rfl, own6, hb6⟩; have B6 : Below w0.heap.size w0 w6 := bthen ((Below.refl _ _).alloc (Nat.le_refl _) _).drew hb6; have RS6 := Rd.own own6; have XP6 : Box w6 w0.heap.size 27 (plcs none 0 0 0 0 0) := (Box.new w0 27 (plcs none 0 0 0 0 0)).drew1.on hb6)
          | ((with_reducible refine (HPl.out w6 As cs (GP.below HG.out B6) RS6).mono ?_); have XP6' := XP6; rintro e w7 ⟨V7, A7, c7, rfl, row7, hb7⟩; have B7 : Below w0.heap.size w0 w7 := bthen B6 hb7; have XP7 := XP6.on hb7; have q4 := pchain (A2 := A7) (n2 := n) (c2 := c7) (m0 := k0) (m1 := k1) (m2 := k2) (W := w7) XP7 B7 (Nat.le_refl _); obtain ⟨⟨⟨yp0, fp0⟩, ⟨yp1, fp1⟩, ⟨yp2, fp2⟩, ⟨yp3, fp3⟩⟩, XP4, BW4, OW4⟩ := q4)
          | ((with_reducible refine (HPl.out (w6.alloc (.cells #[.slice none 0 0, .int .i64 0, .int .i64 0, .int .i64 0] 27)) As cs (GP.below HG.out (below_alloc1 B6)) ((RS6.alloc (Nat.le_refl _) _).more (by simp))).mono ?_); rintro e w7 ⟨V7, A7, c7, rfl, row7, hb7⟩; have B7 : Below w0.heap.size w0 w7 := bthen (below_alloc1 B6) hb7; have XP7 := (Box.new w6 27 (plcs none 0 0 0 0 0)).on hb7; have q4 := pchain (A2 := A7) (n2 := n) (c2 := c7) (m0 := k0) (m1 := k1) (m2 := k2) (W := w7) XP7 B7 B6.size; obtain ⟨⟨⟨yp0, fp0⟩, ⟨yp1, fp1⟩, ⟨yp2, fp2⟩, ⟨yp3, fp3⟩⟩, XP4, BW4, OW4⟩ := q4)
          | ((with_reducible refine (HPl.out w6 As cs (GP.below HG.out B6) RS6).mono ?_); rintro e w7 ⟨V7, A7, c7, rfl, row7, hb7⟩; have B7 : Below w0.heap.size w0 w7 := bthen B6 hb7)
          | fail))
      · have PO := Box.new w7 27 (plcs A7 n c7 k0 k1 k2)
        have F := And.intro (GP.below HG.out (below_alloc1 (o := .cells #[.slice A7 n c7, .int .i64 k0, .int .i64 k1, .int .i64 k2] 27) B7)) (And.intro PO (row7.fin HA0.out (GP.below HG.out B7).2.2 (GP.below HG.out (below_alloc1 (o := .cells #[.slice A7 n c7, .int .i64 k0, .int .i64 k1, .int .i64 k2] 27) B7)).2.2 (fun base m v xs O => O.alloc _)))
        clear PO row7 B7 B6 RS6 own6
        generalize World.alloc _ _ = w9 at F ⊢
        generalize w7.heap.size = l1 at F ⊢
        exact ⟨l1, As, cs, V7, A7, c7, F, rfl⟩
      · have F := And.intro (GP.below HG.out (BW4)) (And.intro XP4 (row7.fin HA0.out (GP.below HG.out B7).2.2 (GP.below HG.out (BW4)).2.2 OW4))
        clear yp0 fp0 yp1 fp1 yp2 fp2 yp3 fp3 XP4 BW4 OW4 XP7 row7 B7 B6 RS6 own6
        generalize World.setCell _ _ _ = w9 at F ⊢
        generalize w6.heap.size = l1 at F ⊢
        exact ⟨l1, As, cs, V7, A7, c7, F, rfl⟩
      · have F := And.intro (GP.below HG.out (BW4)) (And.intro XP4 (row7.fin HA0.out (GP.below HG.out B7).2.2 (GP.below HG.out (BW4)).2.2 OW4))
        clear yp0 fp0 yp1 fp1 yp2 fp2 yp3 fp3 XP4 BW4 OW4 XP7 row7 B7 B6 RS6 own6
        generalize World.setCell _ _ _ = w9 at F ⊢
        generalize w0.heap.size = l1 at F ⊢
        exact ⟨l1, As, cs, V7, A7, c7, F, rfl⟩
    rintro w8 bx As cs V A7 c7 ⟨hG8, _, _⟩
    have H8 := Lib.hid hG8
    clear hG8 c0 c1 c2 c3 c4 a0 a1 a2 a3 SO HG HPl HSo
    go_wp2
    go_ret
    exact ⟨ret_bool HF.out, H8.out.2.2⟩
end
end Go.Proofs.Ytbhcemipjfdemaa

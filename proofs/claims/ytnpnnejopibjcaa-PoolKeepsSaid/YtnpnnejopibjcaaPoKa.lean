/-
  Layer 11's laws: the law Keeps.
-/
import Derived.Test.YtnpnnejopibjcaaPoZ
namespace Go.Proofs.Ytnpnnejopibjcaa
open Go.RowKit Geom Leaf Pol Zone
set_option linter.unusedVariables false

theorem laid_a2 {w1 w6 : World} {n g c : Nat} {qs : List Int} {k0 k1 k2 : Int} (B6 : Below w1.heap.size w1 w6) (O6 : w6.ownsRow w1.heap.size 3 1 (.slice (some ⟨g, 0, none⟩) n c) n (is qs)) (hn : 0 < n) :
    Below w1.heap.size w1 (w6.alloc (.cells #[.slice (some ⟨g, 0, none⟩) n c, .int .i64 k0, .int .i64 k1, .int .i64 k2] 31)) ∧ w1.heap.size ≤ w6.heap.size ∧ w1.heap.size ≤ g ∧
      Box (w6.alloc (.cells #[.slice (some ⟨g, 0, none⟩) n c, .int .i64 k0, .int .i64 k1, .int .i64 k2] 31)) w6.heap.size 31 (plcs (some ⟨g, 0, none⟩) n c k0 k1 k2) ∧
      (w6.alloc (.cells #[.slice (some ⟨g, 0, none⟩) n c, .int .i64 k0, .int .i64 k1, .int .i64 k2] 31)).ownsRow w1.heap.size 3 1 (.slice (some ⟨g, 0, none⟩) n c) n (is qs) := by
  obtain ⟨g', hA, h1, _⟩ := own_at O6 hn
  obtain rfl : g = g' := by injection hA with h; injection h
  exact ⟨B6.alloc B6.size _, B6.size, h1, Box.new w6 _ (plcs (some ⟨g, 0, none⟩) n c k0 k1 k2), O6.alloc _⟩
theorem laid_b2 {w1 w6 : World} {n g b c : Nat} {qs : List Int} {k0 k1 k2 : Int} (B6 : Below w1.heap.size w1 w6) (LB : w1.heap.size ≤ b) (X6 : Box w6 b 31 (plcs none 0 0 0 0 0)) (O6 : w6.ownsRow w1.heap.size 3 1 (.slice (some ⟨g, 0, none⟩) n c) n (is qs)) (hn : 0 < n) :
    Below w1.heap.size w1 ((((w6.setCell ⟨b, 0, none⟩ (.slice (some ⟨g, 0, none⟩) n c)).setCell ⟨b, 1, none⟩ (.int .i64 k0)).setCell ⟨b, 2, none⟩ (.int .i64 k1)).setCell ⟨b, 3, none⟩ (.int .i64 k2)) ∧ w1.heap.size ≤ b ∧ w1.heap.size ≤ g ∧
      Box ((((w6.setCell ⟨b, 0, none⟩ (.slice (some ⟨g, 0, none⟩) n c)).setCell ⟨b, 1, none⟩ (.int .i64 k0)).setCell ⟨b, 2, none⟩ (.int .i64 k1)).setCell ⟨b, 3, none⟩ (.int .i64 k2)) b 31 (plcs (some ⟨g, 0, none⟩) n c k0 k1 k2) ∧
      ((((w6.setCell ⟨b, 0, none⟩ (.slice (some ⟨g, 0, none⟩) n c)).setCell ⟨b, 1, none⟩ (.int .i64 k0)).setCell ⟨b, 2, none⟩ (.int .i64 k1)).setCell ⟨b, 3, none⟩ (.int .i64 k2)).ownsRow w1.heap.size 3 1 (.slice (some ⟨g, 0, none⟩) n c) n (is qs) := by
  obtain ⟨g', hA, h1, _⟩ := own_at O6 hn
  obtain rfl : g = g' := by injection hA with h; injection h
  have hne : g ≠ b := (X6.ne_row O6 rfl (by decide)).symm
  exact ⟨(((B6.setCell LB _).setCell LB _).setCell LB _).setCell LB _, LB, h1, (((X6.set 0 _).set 1 _).set 2 _).set 3 _,
    own_grown (own_grown (own_grown (own_grown O6 (pgrown_cell _ _ _) hne) (pgrown_cell _ _ _) hne) (pgrown_cell _ _ _) hne) (pgrown_cell _ _ _) hne⟩
/-- what stands in memory while the answers are written over -/
structure KpS (w w' : World) (conv soft seq size opn : Int) (A : Option Addr) (n cap : Nat) (h0 h1 h2 : Int) (ps : List Int) (bw gw cw ba ga ca : Nat) (k0 k1 k2 : Int) (bb gb cb : Nat) (Y V : List Int) : Prop where
  gp : GP w w' conv soft seq size opn A n cap h0 h1 h2
  xw : Box w' bw 31 (plcs (some ⟨gw, 0, none⟩) n cw h0 h1 h2)
  ow : w'.ownsRow 0 3 1 (.slice (some ⟨gw, 0, none⟩) n cw) n (is ps)
  xa : Box w' ba 31 (plcs (some ⟨ga, 0, none⟩) n ca k0 k1 k2)
  oa : w'.ownsRow 0 3 1 (.slice (some ⟨ga, 0, none⟩) n ca) n (is Y)
  xb : Box w' bb 31 (plcs (some ⟨gb, 0, none⟩) n cb h0 h1 h2)
  ob : w'.ownsRow 0 3 1 (.slice (some ⟨gb, 0, none⟩) n cb) n (is V)
  wg : w.heap.size + 1 < gw
  ab : gw < ga ∧ ga < gb
theorem KpS.sa {w w' : World} {conv soft seq size opn : Int} {A : Option Addr} {n cap : Nat} {h0 h1 h2 : Int} {ps : List Int} {bw gw cw ba ga ca : Nat} {k0 k1 k2 : Int} {bb gb cb : Nat} {Y V : List Int} (h : KpS w w' conv soft seq size opn A n cap h0 h1 h2 ps bw gw cw ba ga ca k0 k1 k2 bb gb cb Y V) (j : Nat) (x : Int) :
    KpS w (w'.setCell ⟨ga, j, none⟩ (.int .i64 x)) conv soft seq size opn A n cap h0 h1 h2 ps bw gw cw ba ga ca k0 k1 k2 bb gb cb (Y.set j x) V := by
  obtain ⟨o1, hg⟩ := h.oa.stored j (.int .i64 x)
  rw [← is_set] at o1
  have h1' := h.wg
  have h2' := h.ab
  exact ⟨h.gp.grown hg (by omega), h.xw.grown hg (h.xw.ne_row h.oa rfl (by decide)), own_grown h.ow hg (by omega), h.xa.grown hg (h.xa.ne_row h.oa rfl (by decide)), o1, h.xb.grown hg (h.xb.ne_row h.oa rfl (by decide)), own_grown h.ob hg (by omega), h.wg, h.ab⟩
theorem KpS.sb {w w' : World} {conv soft seq size opn : Int} {A : Option Addr} {n cap : Nat} {h0 h1 h2 : Int} {ps : List Int} {bw gw cw ba ga ca : Nat} {k0 k1 k2 : Int} {bb gb cb : Nat} {Y V : List Int} (h : KpS w w' conv soft seq size opn A n cap h0 h1 h2 ps bw gw cw ba ga ca k0 k1 k2 bb gb cb Y V) (j : Nat) (x : Int) :
    KpS w (w'.setCell ⟨gb, j, none⟩ (.int .i64 x)) conv soft seq size opn A n cap h0 h1 h2 ps bw gw cw ba ga ca k0 k1 k2 bb gb cb Y (V.set j x) := by
  obtain ⟨o1, hg⟩ := h.ob.stored j (.int .i64 x)
  rw [← is_set] at o1
  have h1' := h.wg
  have h2' := h.ab
  exact ⟨h.gp.grown hg (by omega), h.xw.grown hg (h.xw.ne_row h.ob rfl (by decide)), own_grown h.ow hg (by omega), h.xa.grown hg (h.xa.ne_row h.ob rfl (by decide)), own_grown h.oa hg (by omega), h.xb.grown hg (h.xb.ne_row h.ob rfl (by decide)), o1, h.wg, h.ab⟩
set_option maxRecDepth 100000 in
set_option maxHeartbeats 16000000 in
theorem polaw_keeps (conv soft seq size opn : Int) (A : Option Addr) (n cap : Nat) (ps : List Int) (h0 h1 h2 : Int) (st : Nat) (z : Int) (w : World) (hm : n ≤ maxLen) (hn : ps.length = n) (hr : Rd w w.heap.size A (is ps)) (z0 : h0 < 9223372036854775808) (z1 : h1 < 9223372036854775808) (z2 : h2 < 9223372036854775808) (hc : n ≤ cap) (hst : st ≤ 255) (kz : z < 9223372036854775808) :
    Calls Try.prog 6 #[pgv conv soft seq size opn, ppv A n cap h0 h1 h2, .int .u8 st, .int .i64 z] w fun e w' => e = .returned (.bool true) ∧ Below w.heap.size w w' := by
  have H0 := Lib.hid (GP.new w conv soft seq size opn A n cap h0 h1 h2 23 31)
  have HB := Lib.hid fun w => rright_any conv soft seq size opn w
  by_cases hok : Ok conv soft seq size opn
  rotate_left
  · rw [ok_no hok] at HB
    go_enter Try.func6, Try.ntmps6
    go_wp2_with fail
    generalize World.alloc _ _ = w0 at H0 ⊢
    refine (awake11_any _).mono ?_
    rintro e w1 ⟨rfl, hb⟩
    have H1 := Lib.hid (GP.below H0.out hb)
    obtain ⟨c0, c1, c2, c3, c4, cl⟩ := id H1.out.1
    clear H0 hb
    go_wp2_with fail
    refine (HB.out _).mono ?_
    rintro e w2 ⟨rfl, hb⟩
    have H2 := Lib.hid (GP.below H1.out hb)
    clear H1 hb c0 c1 c2 c3 c4 cl
    go_wp2_with fail
    refine (awake11_any _).mono ?_
    rintro e w9 ⟨rfl, hb9⟩
    have H9 := Lib.hid (GP.below H2.out hb9)
    clear hb9
    go_wp2
    go_ret
    exact ⟨rfl, H9.out.2.2⟩
  rw [ok_yes hok] at HB
  have HRR := Lib.hid fun w' (h : GP w w' conv soft seq size opn A n cap h0 h1 h2) => rpright_any conv soft seq size opn A n cap ps h0 h1 h2 w' hm hn hok.some (hr.gp h)
  have HRb := Lib.hid (right_iff (conv := conv) (seq := seq) (size := size) (ps := ps) (h0 := h0) (h1 := h1) (h2 := h2))
  have HR := Lib.hid hr
  have HS := Lib.hid hok.some
  have HN := Lib.hid hn
  clear z0 z1 z2 hok hr hn
  generalize rightB conv seq size ps h0 h1 h2 = rb at HRR HRb
  cases rb
  · go_enter Try.func6, Try.ntmps6
    go_wp2_with fail
    generalize World.alloc _ _ = w0 at H0 ⊢
    refine (awake11_any _).mono ?_
    rintro e w1 ⟨rfl, hb⟩
    have H1 := Lib.hid (GP.below H0.out hb)
    obtain ⟨c0, c1, c2, c3, c4, cl⟩ := id H1.out.1
    clear H0 hb
    go_wp2_with fail
    refine (HB.out _).mono ?_
    rintro e w2 ⟨rfl, hb⟩
    have H2 := Lib.hid (GP.below H1.out hb)
    clear H1 hb c0 c1 c2 c3 c4 cl
    obtain ⟨c0, c1, c2, c3, c4, cl⟩ := id H2.out.1
    obtain ⟨a0, a1, a2, a3, al⟩ := id H2.out.2.1
    go_wp2_with fail
    refine (HRR.out _ H2.out).mono ?_
    rintro e w3 ⟨rfl, hb⟩
    have H3 := Lib.hid (GP.below H2.out hb)
    clear hb H2 c0 c1 c2 c3 c4 cl a0 a1 a2 a3 al
    go_wp2_with fail
    refine (awake11_any _).mono ?_
    rintro e w9 ⟨rfl, hb9⟩
    have H9 := Lib.hid (GP.below H3.out hb9)
    clear hb9
    go_wp2
    go_ret
    exact ⟨rfl, H9.out.2.2⟩
  have hR := HRb.out.1 rfl
  have hl := hR.len
  rw [HN.out] at hl
  have hn64 : n ≤ 64 := by have := HS.out.2.2.1; have := HS.out.1; omega
  have hn6 : 6 ≤ n := by have := HS.out.2.1; omega
  obtain ⟨sz, sx, qs, k0, k1, k2, ok, HQl, HQr, HSt, HSr⟩ := both_step conv soft seq size opn n ps h0 h1 h2 (st % 3) hn64 HN.out HS.out hR (by omega)
  obtain ⟨rs, ok2, HTl, HTr, HRe, HRf⟩ := both_reset conv soft seq size opn n ps h0 h1 h2 z kz hn64 HN.out HS.out hR
  obtain ⟨ad, rfl, _, _⟩ := HR.out.point (k := 0) (by rw [HN.out]; omega)
  have HQL := Lib.hid HQl
  have HTL := Lib.hid HTl
  have HSt := Lib.hid HSt
  have HRe := Lib.hid HRe
  have HN64 := Lib.hid (And.intro hn6 hn64)
  clear hR hl HQl HTl HQr HTr hn64 hn6 HSr HRf
  go_enter Try.func6, Try.ntmps6
  go_wp2_with fail
  generalize World.alloc _ _ = w0 at H0 ⊢
  refine (awake11_any _).mono ?_
  rintro e w1 ⟨rfl, hb⟩
  have H1 := Lib.hid (GP.below H0.out hb)
  obtain ⟨c0, c1, c2, c3, c4, cl⟩ := id H1.out.1
  clear H0 hb
  go_wp2_with fail
  refine (HB.out _).mono ?_
  rintro e w2 ⟨rfl, hb⟩
  have H2 := Lib.hid (GP.below H1.out hb)
  clear H1 hb c0 c1 c2 c3 c4 cl
  obtain ⟨c0, c1, c2, c3, c4, cl⟩ := id H2.out.1
  obtain ⟨a0, a1, a2, a3, al⟩ := id H2.out.2.1
  go_wp2_with fail
  refine (HRR.out _ H2.out).mono ?_
  rintro e w3 ⟨rfl, hb⟩
  have H3 := Lib.hid (GP.below H2.out hb)
  clear hb H2 c0 c1 c2 c3 c4 cl a0 a1 a2 a3 al
  obtain ⟨c0, c1, c2, c3, c4, cl⟩ := id H3.out.1
  obtain ⟨a0, a1, a2, a3, al⟩ := id H3.out.2.1
  go_wp2_with fail
  have OWL := Lib.hid fun (W : World) (h : w3.heap.size ≤ W.heap.size) => (World.ownsRow_lit (e := 3) (size := 1) W #[] 0 h (by decide) (by simp) : (W.alloc (.cells #[] 3)).ownsRow w3.heap.size 3 1 (.slice (some ⟨W.heap.size, 0, none⟩) 0 0) 0 [])
  have BS := Lib.hid (Below.refl w3.heap.size w3).drew
  have hsz1 : (w3.alloc (.cells #[] 3)).heap.size = w3.heap.size + 1 := by simp
  have hsz2 : (w3.alloc (.cells #[.slice none 0 0, .int .i64 0, .int .i64 0, .int .i64 0] 31)).heap.size = w3.heap.size + 1 := by simp
  have XA : Hid (Box ((w3.alloc (.cells #[] 3)).alloc (.cells #[.slice none 0 0, .int .i64 0, .int .i64 0, .int .i64 0] 31)).drew (w3.heap.size + 1) 31 (plcs none 0 0 0 0 0)) := Lib.hid (by
    have := Box.new (w3.alloc (.cells #[] 3)) 31 (plcs none 0 0 0 0 0)
    rwa [hsz1] at this)
  have XB : Hid (Box ((w3.alloc (.cells #[.slice none 0 0, .int .i64 0, .int .i64 0, .int .i64 0] 31)).alloc (.cells #[] 3)).drew w3.heap.size 31 (plcs none 0 0 0 0 0)) := Lib.hid
    ((Box.new w3 31 (plcs none 0 0 0 0 0)).same (Below.heap_alloc _ _ _ (by rw [hsz2]; omega)))
  have OWB : Hid (((w3.alloc (.cells #[.slice none 0 0, .int .i64 0, .int .i64 0, .int .i64 0] 31)).alloc (.cells #[] 3)).ownsRow w3.heap.size 3 1 (.slice (some ⟨w3.heap.size + 1, 0, none⟩) 0 0) 0 []) := Lib.hid (by
    have := OWL.out (w3.alloc (.cells #[.slice none 0 0, .int .i64 0, .int .i64 0, .int .i64 0] 31)) (by rw [hsz2]; omega)
    rwa [hsz2] at this)
  clear hsz1 hsz2
  have RD := Lib.hid fun w' (h : Below w3.heap.size w3 w') => Rd.gp HR.out (GP.below H3.out h)
  have SO := Lib.hid fun w' (h : Below w3.heap.size w3 w') => (fun (g : GP w w' conv soft seq size opn (some ad) n cap h0 h1 h2) => (⟨g.2.1.1, g.2.1.2.1, g.2.1.2.2.1, g.2.1.2.2.2.1⟩ :
    w'.cell? ⟨w.heap.size + 1, 0, none⟩ = some (.slice (some ad) n cap) ∧ w'.cell? ⟨w.heap.size + 1, 1, none⟩ = some (.int .i64 h0) ∧ w'.cell? ⟨w.heap.size + 1, 2, none⟩ = some (.int .i64 h1) ∧ w'.cell? ⟨w.heap.size + 1, 3, none⟩ = some (.int .i64 h2))) (GP.below H3.out h)
  have HLn := Lib.hid (show (is ps).length = n * 1 by rw [is_length, HN.out, Nat.mul_one])
  clear c0 c1 c2 c3 c4 cl
  apply wp_meetP (fun w' b' g' => ∃ c', Below w3.heap.size w3 w' ∧ w3.heap.size ≤ b' ∧ w3.heap.size ≤ g' ∧ Box w' b' 31 (plcs (some ⟨g', 0, none⟩) n c' h0 h1 h2) ∧ w'.ownsRow w3.heap.size 3 1 (.slice (some ⟨g', 0, none⟩) n c') n (is ps))
  · go_region_held3 (fun w' => w'.cell? ⟨w.heap.size + 1, 0, none⟩ = some (.slice (some ad) n cap) ∧ w'.cell? ⟨w.heap.size + 1, 1, none⟩ = some (.int .i64 h0) ∧ w'.cell? ⟨w.heap.size + 1, 2, none⟩ = some (.int .i64 h1) ∧ w'.cell? ⟨w.heap.size + 1, 3, none⟩ = some (.int .i64 h2))
      (first | exact SO.out _ B6 | exact SO.out _ (B6.alloc B6.size _) | exact SO.out _ ((((B6.setCell LB _).setCell LB _).setCell LB _).setCell LB _) | (refine SO.out _ ?_; repeat (first | exact Below.refl _ _ | refine Below.drew ?_ | refine below_alloc1 ?_)))
      (first
        | ((refine step_append_rd _ (by rfl) _ _ _ (by rfl) w3.heap.size 3 _ 1 8 pelemI (.slice (some ⟨w3.heap.size, 0, none⟩) 0 0) 0 [] (by rfl) (OWL.out w3.drew (Nat.le_refl _)) _ (some ad) n cap (is ps) (by rfl) HLn.out (RD.out _ (below_alloc1 BS.out)) (is_one ps) (by have := HN64.out; simp only [maxLen]; omega) (by have := HN64.out; omega) (by simp <;> omega) ?_); intro v6 w6 hown6 hg6; simp only [Nat.zero_add, List.nil_append] at hown6; obtain ⟨A6, c6, rfl⟩ := own_slice hown6; obtain ⟨g6, rfl, hg6a, hg6b⟩ := own_at hown6 (by have := HN64.out; omega); have B6 : Below w3.heap.size w3 w6 := (below_alloc1 BS.out).grown hg6 (by simp <;> omega) (fun k hk => ((OWL.out w3.drew (Nat.le_refl _)).lt k hk).1))
        | ((refine step_append_rd _ (by rfl) _ _ _ (by rfl) w3.heap.size 3 _ 1 8 pelemI (.slice (some ⟨w3.heap.size, 0, none⟩) 0 0) 0 [] (by rfl) ((OWL.out w3.drew (Nat.le_refl _)).alloc (.cells #[.slice none 0 0, .int .i64 0, .int .i64 0, .int .i64 0] 31)) _ (some ad) n cap (is ps) (by rfl) HLn.out (RD.out _ (below_alloc1 (below_alloc1 BS.out))) (is_one ps) (by have := HN64.out; simp only [maxLen]; omega) (by have := HN64.out; omega) (by simp <;> omega) ?_); intro v6 w6 hown6 hg6; simp only [Nat.zero_add, List.nil_append] at hown6; obtain ⟨A6, c6, rfl⟩ := own_slice hown6; obtain ⟨g6, rfl, hg6a, hg6b⟩ := own_at hown6 (by have := HN64.out; omega); have B6 : Below w3.heap.size w3 w6 := (below_alloc1 (below_alloc1 BS.out)).grown hg6 (by simp <;> omega) (fun k hk => (((OWL.out w3.drew (Nat.le_refl _)).alloc (.cells #[.slice none 0 0, .int .i64 0, .int .i64 0, .int .i64 0] 31)).lt k hk).1); have X6 := XA.out.grown (g := w3.heap.size) hg6 (by omega); have LB : w3.heap.size ≤ w3.heap.size + 1 := Nat.le_succ _; have X6a := X6.set 0 (.slice (some ⟨g6, 0, none⟩) n c6); have X6b := X6a.set 1 (.int .i64 h0); have X6c := X6b.set 2 (.int .i64 h1); have X6d := X6c.set 3 (.int .i64 h2); have y0 : World.cell? _ ⟨_, 0, none⟩ = some (.slice none 0 0) := X6.cell 0; have z0 := X6.frozen 0; have y1 : World.cell? _ ⟨_, 1, none⟩ = some (.int .i64 0) := X6a.cell 1; have z1 := X6a.frozen 1; have y2 : World.cell? _ ⟨_, 2, none⟩ = some (.int .i64 0) := X6b.cell 2; have z2 := X6b.frozen 2; have y3 : World.cell? _ ⟨_, 3, none⟩ = some (.int .i64 0) := X6c.cell 3; have z3 := X6c.frozen 3)
        | ((refine step_append_rd _ (by rfl) _ _ _ (by rfl) w3.heap.size 3 _ 1 8 pelemI (.slice (some ⟨w3.heap.size + 1, 0, none⟩) 0 0) 0 [] (by rfl) (OWB.out) _ (some ad) n cap (is ps) (by rfl) HLn.out (RD.out _ (below_alloc1 (below_alloc1 BS.out))) (is_one ps) (by have := HN64.out; simp only [maxLen]; omega) (by have := HN64.out; omega) (by simp <;> omega) ?_); intro v6 w6 hown6 hg6; simp only [Nat.zero_add, List.nil_append] at hown6; obtain ⟨A6, c6, rfl⟩ := own_slice hown6; obtain ⟨g6, rfl, hg6a, hg6b⟩ := own_at hown6 (by have := HN64.out; omega); have B6 : Below w3.heap.size w3 w6 := (below_alloc1 (below_alloc1 BS.out)).grown hg6 (by simp <;> omega) (fun k hk => ((OWB.out).lt k hk).1); have X6 := XB.out.grown (g := w3.heap.size + 1) hg6 (by omega); have LB : w3.heap.size ≤ w3.heap.size := Nat.le_refl _; have X6a := X6.set 0 (.slice (some ⟨g6, 0, none⟩) n c6); have X6b := X6a.set 1 (.int .i64 h0); have X6c := X6b.set 2 (.int .i64 h1); have X6d := X6c.set 3 (.int .i64 h2); have y0 : World.cell? _ ⟨_, 0, none⟩ = some (.slice none 0 0) := X6.cell 0; have z0 := X6.frozen 0; have y1 : World.cell? _ ⟨_, 1, none⟩ = some (.int .i64 0) := X6a.cell 1; have z1 := X6a.frozen 1; have y2 : World.cell? _ ⟨_, 2, none⟩ = some (.int .i64 0) := X6b.cell 2; have z2 := X6b.frozen 2; have y3 : World.cell? _ ⟨_, 3, none⟩ = some (.int .i64 0) := X6c.cell 3; have z3 := X6c.frozen 3)
        | fail)
    · have F := laid_a2 (k0 := h0) (k1 := h1) (k2 := h2) B6 hown6 (by have := HN64.out; omega)
      clear B6 hg6 hg6a hg6b hown6
      generalize w6.alloc _ = w9 at F ⊢
      generalize w6.heap.size = b6 at F ⊢
      generalize w3.heap.size = l6 at F ⊢
      exact ⟨b6, g6, l6, c6, ⟨c6, F⟩, rfl⟩
    · have F := laid_b2 (k0 := h0) (k1 := h1) (k2 := h2) B6 LB X6 hown6 (by have := HN64.out; omega)
      clear X6a X6b X6c X6d y0 y1 y2 y3 z0 z1 z2 z3 X6 B6 hg6 hg6a hg6b hown6 LB
      generalize World.setCell _ _ _ = w9 at F ⊢
      generalize w3.heap.size + 1 = b6 at F ⊢
      generalize w3.heap.size = l6 at F ⊢
      exact ⟨b6, g6, l6, c6, ⟨c6, F⟩, rfl⟩
    · have F := laid_b2 (k0 := h0) (k1 := h1) (k2 := h2) B6 LB X6 hown6 (by have := HN64.out; omega)
      clear X6a X6b X6c X6d y0 y1 y2 y3 z0 z1 z2 z3 X6 B6 hg6 hg6a hg6b hown6 LB
      generalize World.setCell _ _ _ = w9 at F ⊢
      generalize w3.heap.size + 1 = l6 at F ⊢
      generalize w3.heap.size = b6 at F ⊢
      exact ⟨b6, g6, l6, c6, ⟨c6, F⟩, rfl⟩
  rintro w4 bw gw gz cz ⟨cw, hb4, hbb4, hgg4, x4, o4⟩
  obtain ⟨gw', hA4, hg4, hg4'⟩ := own_at o4 (by have := HN64.out; omega)
  obtain rfl : gw = gw' := by injection hA4 with h; injection h
  have H4 := Lib.hid (GP.below H3.out hb4)
  have XW4 := Lib.hid x4
  have OW4 := Lib.hid o4
  have G4 := Lib.hid (show w.heap.size + 1 < gw ∧ gw < w4.heap.size from ⟨by have := H3.out.2.1.2.2.2.2; omega, hg4'⟩)
  clear hb4 hbb4 hgg4 x4 o4 hA4 hg4 hg4' OWL BS XA XB OWB RD SO HLn H3 a0 a1 a2 a3 al
  obtain ⟨c0, c1, c2, c3, c4, cl⟩ := id H4.out.1
  obtain ⟨a0, a1, a2, a3, al⟩ := id H4.out.2.1
  go_wp2_with fail
  rw [show ((st : Int) % 3) = ((st % 3 : Nat) : Int) by omega]
  generalize st % 3 = s at *
  refine (HSt.out _ _ _ (Rd.gp HR.out H4.out)).mono ?_
  rintro e w5 ⟨g5, p5, rfl, hown, hb⟩
  obtain ⟨g5', hA5, hg5, hg5'⟩ := own_at hown (by have := HN64.out; omega)
  obtain rfl : g5 = g5' := by injection hA5 with h; injection h
  have H5 := Lib.hid (GP.below H4.out hb)
  have O5 := Lib.hid hown
  have XW5 := Lib.hid (XW4.out.on hb)
  have OW5 := Lib.hid (own_below OW4.out hb)
  have G5 := Lib.hid (show w.heap.size + 1 < gw ∧ gw < g5 ∧ g5 < w5.heap.size from ⟨G4.out.1, by have := G4.out.2; omega, hg5'⟩)
  clear hb hown c0 c1 c2 c3 c4 cl a0 a1 a2 a3 al H4 HSt XW4 OW4 G4 hA5 hg5 hg5'
  go_wp2_with (first
    | ((with_reducible refine wpList_pat_alloc (o := ⟨_, .alloc _, _, _, _, _⟩) rfl rfl ?_); intro u1 xa hu1 hs1)
    | ((with_reducible refine wpList_pool_alloc (o := ⟨_, .alloc _, _, _, _, _⟩) rfl rfl ?_); intro u2 xb hu2 hs2; have xa2 := xa.on hu2)
    | ((with_reducible refine wpList_pat_store (o := ⟨none, .store _ _ _, _, _, _, _⟩) rfl _ _ rfl _ sz sx 0 0 rfl rfl xa2 ?_); intro u3 xc hu3; have xb3 := xb.grown hu3 (xb.ne xa2 (by decide)))
    | ((with_reducible refine wpList_pool_store (o := ⟨none, .store _ _ _, _, _, _, _⟩) rfl _ _ rfl _ (some ⟨g5, 0, none⟩) none n 0 p5 0 k0 k1 k2 0 0 0 rfl rfl xb3 ?_); intro u4 xd hu4; have hv := vars_laid hu1 hs1 hu2 hu3 hu4 xc xd; clear xa xb xa2 xb3 xc xd hu1 hs1 hu2 hs2 hu3 hu4; generalize u1.heap.size = bp6 at hv ⊢; generalize hba : w5.heap.size = ba6 at hv ⊢; have hv1 := hv.1; rw [← hba] at hv1; have H6 := Lib.hid (GP.below H5.out hv1); have O6 := Lib.hid (own_below O5.out hv1); have XW6 := Lib.hid (XW5.out.on hv1); have OW6 := Lib.hid (own_below OW5.out hv1); clear H5 O5 XW5 OW5; have XA6 := Lib.hid hv.2.1; have XP6 := Lib.hid hv.2.2; have G6 := Lib.hid (show w.heap.size + 1 < gw ∧ gw < g5 ∧ g5 < u4.heap.size from ⟨G5.out.1, G5.out.2.1, by have := hv1.size; have := G5.out.2.2; omega⟩); clear hv hv1 hba G5; obtain ⟨c0, c1, c2, c3, c4, cl⟩ := id H6.out.1; obtain ⟨a0, a1, a2, a3, al⟩ := id H6.out.2.1)
    | fail)
  refine (HRe.out _ _ _ (Rd.gp HR.out H6.out)).mono ?_
  rintro e w7 ⟨g7, p7, rfl, hown, hb⟩
  obtain ⟨g7', hA7, hg7, hg7'⟩ := own_at hown (by have := HN64.out; omega)
  obtain rfl : g7 = g7' := by injection hA7 with h; injection h
  have H7 := Lib.hid (GP.below H6.out hb)
  have XP7 := Lib.hid (XP6.out.on hb)
  have O7 := Lib.hid (own_below O6.out hb)
  have XW7 := Lib.hid (XW6.out.on hb)
  have OW7 := Lib.hid (own_below OW6.out hb)
  have R7 := Lib.hid hown
  have G7 := Lib.hid (show w.heap.size + 1 < gw ∧ gw < g5 ∧ g5 < g7 from ⟨G6.out.1, G6.out.2.1, by have := G6.out.2.2; omega⟩)
  clear hb hown c0 c1 c2 c3 c4 cl a0 a1 a2 a3 al H6 XA6 XP6 XW6 OW6 O6 G6 HRe hA7 hg7 hg7'
  go_wp2_with (first
    | ((with_reducible refine wpList_pool_alloc (o := ⟨_, .alloc _, _, _, _, _⟩) rfl rfl ?_); intro u2 xb hu2 hs2)
    | ((with_reducible refine wpList_pool_store (o := ⟨none, .store _ _ _, _, _, _, _⟩) rfl _ _ rfl _ (some ⟨g7, 0, none⟩) none n 0 p7 0 h0 h1 h2 0 0 0 rfl rfl xb ?_); intro u4 xd hu4; have hv1 := hu2.grown hu4 hu2.size (fun k hk => by injection hk with hk; omega); clear xb hu2 hs2 hu4; generalize hbp : w7.heap.size = bp8 at xd ⊢; have H8 := Lib.hid (GP.below H7.out hv1); have XP8 := Lib.hid (XP7.out.on hv1); have O8 := Lib.hid (own_below O7.out hv1); have XW8 := Lib.hid (XW7.out.on hv1); have OW8 := Lib.hid (own_below OW7.out hv1); have R8 := Lib.hid (own_below R7.out hv1); clear H7 XP7 O7 XW7 OW7 R7; have XB8 := Lib.hid xd; clear hv1 xd hbp; skip)
    | fail)
  have K0 := Lib.hid (KpS.mk H8.out XW8.out (own_base0 OW8.out (Nat.zero_le _)) XP8.out (own_base0 O8.out (Nat.zero_le _)) XB8.out (own_base0 R8.out (Nat.zero_le _)) G7.out.1 G7.out.2)
  clear H8 XW8 OW8 XP8 O8 XB8 R8 G7
  go_loopw [15] (fun i wr => ∃ k : Nat, k ≤ n ∧ i = .int .i64 k ∧ ∃ Y, KpS w wr conv soft seq size opn (some ad) n cap h0 h1 h2 ps bw gw cw bp6 g5 p5 k0 k1 k2 bp8 g7 p7 Y rs) (fun i _ => n - (intOf i).toNat)
  case atStart => exact ⟨0, by omega, rfl, _, K0.out⟩
  case round =>
    obtain ⟨k, hk, rfl, Y, hK⟩ := hrel
    have K1 := Lib.hid hK
    clear hK K0
    have hn64 := HN64.out
    obtain ⟨e0, e1, e2, e3, el⟩ := K1.out.xa.pool
    by_cases hlt : k < n
    · have hl := K1.out.oa.1
      obtain ⟨u, d1⟩ : ∃ u, wr.cell? ⟨g5, k, none⟩ = some u := ⟨_, (K1.out.oa.cellAt k (by omega)).trans (List.getElem?_eq_getElem (by omega))⟩
      have hf := K1.out.oa.frozenAt k
      have K2 := Lib.hid (K1.out.sa k (-7))
      clear hl
      go_wp2
      go_roundw
      case rel => exact ⟨k + 1, by omega, by go_num, _, K2.out⟩
      case measure => first | (simp [intOf]; done) | (simp [intOf]; omega)
    · have hkn : k = n := by omega
      have hd : decide ((k : Int) < (n : Int)) = false := decide_eq_false (by omega)
      have K2 := Lib.hid K1.out
      clear hkn
      go_wp2_with fail
      clear e0 e1 e2 e3 el hd hlt hk
      go_loopw [16] (fun i wr => ∃ k : Nat, k ≤ n ∧ i = .int .i64 k ∧ ∃ V, KpS w wr conv soft seq size opn (some ad) n cap h0 h1 h2 ps bw gw cw bp6 g5 p5 k0 k1 k2 bp8 g7 p7 Y V) (fun i _ => n - (intOf i).toNat)
      case atStart => exact ⟨0, by omega, rfl, _, K2.out⟩
      case round =>
        obtain ⟨j, hj, rfl, V, hK⟩ := hrel
        have K3 := Lib.hid hK
        clear hK K2 K1
        obtain ⟨f0, f1, f2, f3, fl⟩ := K3.out.xb.pool
        by_cases hlt : j < n
        · have hl := K3.out.ob.1
          obtain ⟨u, d1⟩ : ∃ u, wr.cell? ⟨g7, j, none⟩ = some u := ⟨_, (K3.out.ob.cellAt j (by omega)).trans (List.getElem?_eq_getElem (by omega))⟩
          have hf := K3.out.ob.frozenAt j
          have K4 := Lib.hid (K3.out.sb j (-7))
          clear hl
          go_wp2
          go_roundw
          case rel => exact ⟨j + 1, by omega, by go_num, _, K4.out⟩
          case measure => first | (simp [intOf]; done) | (simp [intOf]; omega)
        · have hd : decide ((j : Int) < (n : Int)) = false := decide_eq_false (by omega)
          obtain ⟨a0, a1, a2, a3, al⟩ := id K3.out.gp.2.1
          obtain ⟨b0, b1, b2, b3, bl⟩ := K3.out.xw.pool
          have HSm := Lib.hid (rpsame_any (some ad) (some ⟨gw, 0, none⟩) n cap n cw h0 h1 h2 h0 h1 h2 ps ps wr (by simp only [maxLen]; omega) (by simp only [maxLen]; omega) HN.out HN.out (Rd.gp HR.out K3.out.gp) (Rd.own K3.out.ow))
          rw [psame_refl] at HSm
          go_wp2_with fail
          refine HSm.out.mono ?_
          rintro e v1 ⟨rfl, hb⟩
          go_wp2
          go_ret
          exact ⟨rfl, bthen K3.out.gp.2.2 hb⟩
end Go.Proofs.Ytnpnnejopibjcaa

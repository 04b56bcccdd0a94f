/-
  Layer 12's laws: the law Keeps.
-/
import Derived.Test.YtbhcemipjfdemaaLaI
namespace Go.Proofs.Ytbhcemipjfdemaa
open Go.RowKit Geom Leaf Pol
set_option linter.unusedVariables false

theorem laid_a3 {w1 w6 : World} {n g c : Nat} {qs : List Int} {k0 k1 k2 : Int} (B6 : Below w1.heap.size w1 w6) (O6 : w6.ownsRow w1.heap.size 3 1 (.slice (some ⟨g, 0, none⟩) n c) n (is qs)) (hn : 0 < n) :
    Below w1.heap.size w1 (w6.alloc (.cells #[.slice (some ⟨g, 0, none⟩) n c, .int .i64 k0, .int .i64 k1, .int .i64 k2] 27)) ∧ w1.heap.size ≤ w6.heap.size ∧ w1.heap.size ≤ g ∧
      Box (w6.alloc (.cells #[.slice (some ⟨g, 0, none⟩) n c, .int .i64 k0, .int .i64 k1, .int .i64 k2] 27)) w6.heap.size 27 (plcs (some ⟨g, 0, none⟩) n c k0 k1 k2) ∧
      (w6.alloc (.cells #[.slice (some ⟨g, 0, none⟩) n c, .int .i64 k0, .int .i64 k1, .int .i64 k2] 27)).ownsRow w1.heap.size 3 1 (.slice (some ⟨g, 0, none⟩) n c) n (is qs) := by
  obtain ⟨g', hA, h1, _⟩ := own_at O6 hn
  obtain rfl : g = g' := by injection hA with h; injection h
  exact ⟨B6.alloc B6.size _, B6.size, h1, Box.new w6 _ (plcs (some ⟨g, 0, none⟩) n c k0 k1 k2), O6.alloc _⟩
theorem laid_b3 {w1 w6 : World} {n g b c : Nat} {qs : List Int} {k0 k1 k2 : Int} (B6 : Below w1.heap.size w1 w6) (LB : w1.heap.size ≤ b) (X6 : Box w6 b 27 (plcs none 0 0 0 0 0)) (O6 : w6.ownsRow w1.heap.size 3 1 (.slice (some ⟨g, 0, none⟩) n c) n (is qs)) (hn : 0 < n) :
    Below w1.heap.size w1 ((((w6.setCell ⟨b, 0, none⟩ (.slice (some ⟨g, 0, none⟩) n c)).setCell ⟨b, 1, none⟩ (.int .i64 k0)).setCell ⟨b, 2, none⟩ (.int .i64 k1)).setCell ⟨b, 3, none⟩ (.int .i64 k2)) ∧ w1.heap.size ≤ b ∧ w1.heap.size ≤ g ∧
      Box ((((w6.setCell ⟨b, 0, none⟩ (.slice (some ⟨g, 0, none⟩) n c)).setCell ⟨b, 1, none⟩ (.int .i64 k0)).setCell ⟨b, 2, none⟩ (.int .i64 k1)).setCell ⟨b, 3, none⟩ (.int .i64 k2)) b 27 (plcs (some ⟨g, 0, none⟩) n c k0 k1 k2) ∧
      ((((w6.setCell ⟨b, 0, none⟩ (.slice (some ⟨g, 0, none⟩) n c)).setCell ⟨b, 1, none⟩ (.int .i64 k0)).setCell ⟨b, 2, none⟩ (.int .i64 k1)).setCell ⟨b, 3, none⟩ (.int .i64 k2)).ownsRow w1.heap.size 3 1 (.slice (some ⟨g, 0, none⟩) n c) n (is qs) := by
  obtain ⟨g', hA, h1, _⟩ := own_at O6 hn
  obtain rfl : g = g' := by injection hA with h; injection h
  have hne : g ≠ b := (X6.ne_row O6 rfl (by decide)).symm
  exact ⟨(((B6.setCell LB _).setCell LB _).setCell LB _).setCell LB _, LB, h1, (((X6.set 0 _).set 1 _).set 2 _).set 3 _,
    own_grown (own_grown (own_grown (own_grown O6 (pgrown_cell _ _ _) hne) (pgrown_cell _ _ _) hne) (pgrown_cell _ _ _) hne) (pgrown_cell _ _ _) hne⟩
/-- what stands in memory while the answer is written over -/
structure KqS (w w' : World) (conv soft seq size opn : Int) (A : Option Addr) (n cap : Nat) (h0 h1 h2 : Int) (ps : List Int) (bw gw cw ba ga ca : Nat) (k0 k1 k2 : Int) (Y : List Int) : Prop where
  gp : GP w w' conv soft seq size opn A n cap h0 h1 h2
  xw : Box w' bw 27 (plcs (some ⟨gw, 0, none⟩) n cw h0 h1 h2)
  ow : w'.ownsRow 0 3 1 (.slice (some ⟨gw, 0, none⟩) n cw) n (is ps)
  xa : Box w' ba 27 (plcs (some ⟨ga, 0, none⟩) n ca k0 k1 k2)
  oa : w'.ownsRow 0 3 1 (.slice (some ⟨ga, 0, none⟩) n ca) n (is Y)
  wg : w.heap.size + 1 < gw
  ab : gw < ga
section
variable {w w' w2 : World} {conv soft seq size opn : Int} {A : Option Addr} {n cap : Nat} {h0 h1 h2 : Int} {ps : List Int} {bw gw cw ba ga ca : Nat} {k0 k1 k2 : Int} {Y : List Int}
theorem KqS.sa (h : KqS w w' conv soft seq size opn A n cap h0 h1 h2 ps bw gw cw ba ga ca k0 k1 k2 Y) (j : Nat) (x : Int) :
    KqS w (w'.setCell ⟨ga, j, none⟩ (.int .i64 x)) conv soft seq size opn A n cap h0 h1 h2 ps bw gw cw ba ga ca k0 k1 k2 (Y.set j x) := by
  obtain ⟨o1, hg⟩ := h.oa.stored j (.int .i64 x)
  rw [← is_set] at o1
  have h1' := h.wg
  have h2' := h.ab
  exact ⟨h.gp.grown hg (by omega), h.xw.grown hg (h.xw.ne_row h.oa rfl (by decide)), own_grown h.ow hg (by omega), h.xa.grown hg (h.xa.ne_row h.oa rfl (by decide)), o1, h.wg, h.ab⟩
theorem KqS.on (h : KqS w w' conv soft seq size opn A n cap h0 h1 h2 ps bw gw cw ba ga ca k0 k1 k2 Y) (hb : Below w'.heap.size w' w2) : KqS w w2 conv soft seq size opn A n cap h0 h1 h2 ps bw gw cw ba ga ca k0 k1 k2 Y :=
  ⟨h.gp.below hb, h.xw.on hb, own_below h.ow hb, h.xa.on hb, own_below h.oa hb, h.wg, h.ab⟩
end
set_option maxRecDepth 100000 in
set_option maxHeartbeats 16000000 in
theorem lalaw_keeps (conv soft seq size opn : Int) (A : Option Addr) (n cap : Nat) (ps : List Int) (h0 h1 h2 : Int) (As : Option Addr) (m cs : Nat) (xs : List Int) (w : World) (hm : n ≤ maxLen) (hn : ps.length = n) (hr : Rd w w.heap.size A (is ps)) (hms : m ≤ maxLen) (hsl : xs.length = m) (hrs : Rd w w.heap.size As (is xs)) :
    Calls Try.prog 7 #[pgv conv soft seq size opn, ppv A n cap h0 h1 h2, .slice As m cs] w fun e w' => e = .returned (.bool true) ∧ Below w.heap.size w w' := by
  have H0 := Lib.hid (GP.new w conv soft seq size opn A n cap h0 h1 h2 23 27)
  have HR := Lib.hid fun w' (h : GP w w' conv soft seq size opn A n cap h0 h1 h2) => right12_any conv soft seq size opn A n cap ps h0 h1 h2 w' hm hn (hr.gp h)
  have HRy := Lib.hid fun h => rt_yes (conv := conv) (soft := soft) (seq := seq) (size := size) (opn := opn) (ps := ps) (h0 := h0) (h1 := h1) (h2 := h2) h
  have HN := Lib.hid hn
  have HRd := Lib.hid hr
  have HXr := Lib.hid hrs
  have HXl := Lib.hid hsl
  generalize rtB conv soft seq size opn ps h0 h1 h2 = rb at HR HRy
  have HCs := Lib.hid fun w' (h : GP w w' conv soft seq size opn A n cap h0 h1 h2) => few12_any As m cs xs w' hms hsl w.heap.size (hrs.below h.2.2)
  have HYs := Lib.hid fun h => few_yes (xs := xs) h
  generalize fewB xs = ts at HCs HYs
  clear hr hn hm
  go_enter Try.func7, Try.ntmps7
  go_wp2_with fail
  generalize World.alloc _ _ = w0 at H0 ⊢
  refine (awake12_any _).mono ?_
  rintro e w1 ⟨rfl, hb⟩
  have H1 := Lib.hid (GP.below H0.out hb)
  clear H0 hb
  obtain ⟨c0, c1, c2, c3, c4, cl⟩ := id H1.out.1
  obtain ⟨a0, a1, a2, a3, al⟩ := id H1.out.2.1
  go_wp2_with fail
  refine (HR.out _ H1.out).mono ?_
  rintro e w2 ⟨rfl, hb⟩
  have H2 := Lib.hid (GP.below H1.out hb)
  clear H1 hb c0 c1 c2 c3 c4 cl a0 a1 a2 a3 al
  cases rb
  · go_wp2_with fail
    refine (awake12_any _).mono ?_
    rintro e w9 ⟨rfl, hb9⟩
    have H9 := Lib.hid (GP.below H2.out hb9)
    clear hb9
    go_wp2
    go_ret
    exact ⟨rfl, H9.out.2.2⟩
  go_wp2_with fail
  refine (HCs.out w2 H2.out).mono ?_
  rintro e w3 ⟨rfl, rfl⟩
  cases ts
  · go_wp2_with fail
    refine (awake12_any _).mono ?_
    rintro e w9 ⟨rfl, hb9⟩
    have H9 := Lib.hid (GP.below H2.out hb9)
    clear hb9
    go_wp2
    go_ret
    exact ⟨rfl, H9.out.2.2⟩
  obtain ⟨hok, hs12, hz24, hRt⟩ := HRy.out (by first | trivial | rfl)
  have HS := Lib.hid hok.some
  have hn64 : n ≤ 64 := by have h := Ri.len hRt; have := HN.out; simp only at h; omega
  have HM := Lib.hid hn64
  have HRt := Lib.hid hRt
  have HSz := Lib.hid (And.intro hs12 hz24)
  clear hok hRt hs12 hz24 hn64
  obtain ⟨ss, rfl, hs3, hl3⟩ := HYs.out (by first | trivial | rfl)
  have HSs := Lib.hid hs3
  have HSl : Hid (ss.length = m) := Lib.hid (by simpa using HXl.out)
  have hm300 : m ≤ 300 := by have := HSl.out; omega
  have HRs := Lib.hid fun w' (h : GP w w' conv soft seq size opn A n cap h0 h1 h2) => Rd.gp HXr.out h
  have hn6 : 6 ≤ n := by have h := Ri.len HRt.out; have := HN.out; have := HS.out.2.1; simp only at h; omega
  have HN64 := Lib.hid (And.intro hn6 HM.out)
  have HPl : Hid (∀ w' (h : Rd w' w'.heap.size A (is ps)) (hs : Rd w' w'.heap.size As (isn ss)), Calls Try.prog 13 #[pgv conv soft seq size opn, ppv A n cap h0 h1 h2, .slice As m cs] w' fun e w'' => ∃ V ok g c k0 k1 k2 qs, e = .returned (.tuple #[V, ppv (some ⟨g, 0, none⟩) n c k0 k1 k2, .bool ok]) ∧ w''.ownsRow w'.heap.size 3 1 (.slice (some ⟨g, 0, none⟩) n c) n (is qs) ∧ Below w'.heap.size w' w'') := Lib.hid fun w' h hs => by
    refine (lplan_any conv soft seq size opn A n cap ps h0 h1 h2 As m cs ss w' HM.out HN.out HS.out HRt.out h HSs.out HSl.out (by omega) hs).mono ?_
    rintro e w'' (⟨_, g, c, h1, h2, h3⟩ | ⟨l, q, _, V, g, c, h1, _, h2, h3⟩)
    · exact ⟨_, false, g, c, _, _, _, ps, h1, h2, h3⟩
    · exact ⟨V, true, g, c, _, _, _, q.ps, h1, h2, h3⟩
  have HFi := Lib.hid fun w' (h : Rd w' w'.heap.size A (is ps)) => lfits_any conv soft seq size opn A n cap ⟨ps, h0, h1, h2⟩ 3 3 w' HM.out HN.out HS.out HRt.out (by omega) (by omega) h
  generalize fitsB conv size ⟨ps, h0, h1, h2⟩ 3 3 = fv at *
  obtain ⟨ad, rfl, _, _⟩ := HRd.out.point (k := 0) (by rw [HN.out]; omega)
  clear hs3 hl3 hm300 hn6
  obtain ⟨c0, c1, c2, c3, c4, cl⟩ := id H2.out.1
  obtain ⟨a0, a1, a2, a3, al⟩ := id H2.out.2.1
  go_wp2_with fail
  have OWL := Lib.hid fun (W : World) (h : w2.heap.size ≤ W.heap.size) => (World.ownsRow_lit (e := 3) (size := 1) W #[] 0 h (by decide) (by simp) : (W.alloc (.cells #[] 3)).ownsRow w2.heap.size 3 1 (.slice (some ⟨W.heap.size, 0, none⟩) 0 0) 0 [])
  have BS := Lib.hid (Below.refl w2.heap.size w2).drew
  have hsz1 : (w2.alloc (.cells #[] 3)).heap.size = w2.heap.size + 1 := by simp
  have hsz2 : (w2.alloc (.cells #[.slice none 0 0, .int .i64 0, .int .i64 0, .int .i64 0] 27)).heap.size = w2.heap.size + 1 := by simp
  have XA : Hid (Box ((w2.alloc (.cells #[] 3)).alloc (.cells #[.slice none 0 0, .int .i64 0, .int .i64 0, .int .i64 0] 27)).drew (w2.heap.size + 1) 27 (plcs none 0 0 0 0 0)) := Lib.hid (by
    have := Box.new (w2.alloc (.cells #[] 3)) 27 (plcs none 0 0 0 0 0)
    rwa [hsz1] at this)
  have XB : Hid (Box ((w2.alloc (.cells #[.slice none 0 0, .int .i64 0, .int .i64 0, .int .i64 0] 27)).alloc (.cells #[] 3)).drew w2.heap.size 27 (plcs none 0 0 0 0 0)) := Lib.hid
    ((Box.new w2 27 (plcs none 0 0 0 0 0)).same (Below.heap_alloc _ _ _ (by rw [hsz2]; omega)))
  have OWB : Hid (((w2.alloc (.cells #[.slice none 0 0, .int .i64 0, .int .i64 0, .int .i64 0] 27)).alloc (.cells #[] 3)).ownsRow w2.heap.size 3 1 (.slice (some ⟨w2.heap.size + 1, 0, none⟩) 0 0) 0 []) := Lib.hid (by
    have := OWL.out (w2.alloc (.cells #[.slice none 0 0, .int .i64 0, .int .i64 0, .int .i64 0] 27)) (by rw [hsz2]; omega)
    rwa [hsz2] at this)
  clear hsz1 hsz2
  have RD := Lib.hid fun w' (h : Below w2.heap.size w2 w') => Rd.gp HRd.out (GP.below H2.out h)
  have SO := Lib.hid fun w' (h : Below w2.heap.size w2 w') => (fun (g : GP w w' conv soft seq size opn (some ad) n cap h0 h1 h2) => (⟨g.2.1.1, g.2.1.2.1, g.2.1.2.2.1, g.2.1.2.2.2.1⟩ :
    w'.cell? ⟨w.heap.size + 1, 0, none⟩ = some (.slice (some ad) n cap) ∧ w'.cell? ⟨w.heap.size + 1, 1, none⟩ = some (.int .i64 h0) ∧ w'.cell? ⟨w.heap.size + 1, 2, none⟩ = some (.int .i64 h1) ∧ w'.cell? ⟨w.heap.size + 1, 3, none⟩ = some (.int .i64 h2))) (GP.below H2.out h)
  have HLn := Lib.hid (show (is ps).length = n * 1 by rw [is_length, HN.out, Nat.mul_one])
  clear c0 c1 c2 c3 c4 cl
  apply wp_meetP (fun w' b' g' => ∃ c', Below w2.heap.size w2 w' ∧ w2.heap.size ≤ b' ∧ w2.heap.size ≤ g' ∧ Box w' b' 27 (plcs (some ⟨g', 0, none⟩) n c' h0 h1 h2) ∧ w'.ownsRow w2.heap.size 3 1 (.slice (some ⟨g', 0, none⟩) n c') n (is ps))
  · go_region_held3 (fun w' => w'.cell? ⟨w.heap.size + 1, 0, none⟩ = some (.slice (some ad) n cap) ∧ w'.cell? ⟨w.heap.size + 1, 1, none⟩ = some (.int .i64 h0) ∧ w'.cell? ⟨w.heap.size + 1, 2, none⟩ = some (.int .i64 h1) ∧ w'.cell? ⟨w.heap.size + 1, 3, none⟩ = some (.int .i64 h2))
      (first | exact SO.out _ B6 | exact SO.out _ (B6.alloc B6.size _) | exact SO.out _ ((((B6.setCell LB _).setCell LB _).setCell LB _).setCell LB _) | (refine SO.out _ ?_; repeat (first | exact Below.refl _ _ | refine Below.drew ?_ | refine below_alloc1 ?_)))
      (first
        | ((refine step_append_rd _ (by rfl) _ _ _ (by rfl) w2.heap.size 3 _ 1 8 pelemI (.slice (some ⟨w2.heap.size, 0, none⟩) 0 0) 0 [] (by rfl) (OWL.out w2.drew (Nat.le_refl _)) _ (some ad) n cap (is ps) (by rfl) HLn.out (RD.out _ (below_alloc1 BS.out)) (is_one ps) (by have := HN64.out; simp only [maxLen]; omega) (by have := HN64.out; omega) (by simp <;> omega) ?_); intro v6 w6 hown6 hg6; simp only [Nat.zero_add, List.nil_append] at hown6; obtain ⟨A6, c6, rfl⟩ := own_slice hown6; obtain ⟨g6, rfl, hg6a, hg6b⟩ := own_at hown6 (by have := HN64.out; omega); have B6 : Below w2.heap.size w2 w6 := (below_alloc1 BS.out).grown hg6 (by simp <;> omega) (fun k hk => ((OWL.out w2.drew (Nat.le_refl _)).lt k hk).1))
        | ((refine step_append_rd _ (by rfl) _ _ _ (by rfl) w2.heap.size 3 _ 1 8 pelemI (.slice (some ⟨w2.heap.size, 0, none⟩) 0 0) 0 [] (by rfl) ((OWL.out w2.drew (Nat.le_refl _)).alloc (.cells #[.slice none 0 0, .int .i64 0, .int .i64 0, .int .i64 0] 27)) _ (some ad) n cap (is ps) (by rfl) HLn.out (RD.out _ (below_alloc1 (below_alloc1 BS.out))) (is_one ps) (by have := HN64.out; simp only [maxLen]; omega) (by have := HN64.out; omega) (by simp <;> omega) ?_); intro v6 w6 hown6 hg6; simp only [Nat.zero_add, List.nil_append] at hown6; obtain ⟨A6, c6, rfl⟩ := own_slice hown6; obtain ⟨g6, rfl, hg6a, hg6b⟩ := own_at hown6 (by have := HN64.out; omega); have B6 : Below w2.heap.size w2 w6 := (below_alloc1 (below_alloc1 BS.out)).grown hg6 (by simp <;> omega) (fun k hk => (((OWL.out w2.drew (Nat.le_refl _)).alloc (.cells #[.slice none 0 0, .int .i64 0, .int .i64 0, .int .i64 0] 27)).lt k hk).1); have X6 := XA.out.grown (g := w2.heap.size) hg6 (by omega); have LB : w2.heap.size ≤ w2.heap.size + 1 := Nat.le_succ _; have X6a := X6.set 0 (.slice (some ⟨g6, 0, none⟩) n c6); have X6b := X6a.set 1 (.int .i64 h0); have X6c := X6b.set 2 (.int .i64 h1); have X6d := X6c.set 3 (.int .i64 h2); have y0 : World.cell? _ ⟨_, 0, none⟩ = some (.slice none 0 0) := X6.cell 0; have z0 := X6.frozen 0; have y1 : World.cell? _ ⟨_, 1, none⟩ = some (.int .i64 0) := X6a.cell 1; have z1 := X6a.frozen 1; have y2 : World.cell? _ ⟨_, 2, none⟩ = some (.int .i64 0) := X6b.cell 2; have z2 := X6b.frozen 2; have y3 : World.cell? _ ⟨_, 3, none⟩ = some (.int .i64 0) := X6c.cell 3; have z3 := X6c.frozen 3)
        | ((refine step_append_rd _ (by rfl) _ _ _ (by rfl) w2.heap.size 3 _ 1 8 pelemI (.slice (some ⟨w2.heap.size + 1, 0, none⟩) 0 0) 0 [] (by rfl) (OWB.out) _ (some ad) n cap (is ps) (by rfl) HLn.out (RD.out _ (below_alloc1 (below_alloc1 BS.out))) (is_one ps) (by have := HN64.out; simp only [maxLen]; omega) (by have := HN64.out; omega) (by simp <;> omega) ?_); intro v6 w6 hown6 hg6; simp only [Nat.zero_add, List.nil_append] at hown6; obtain ⟨A6, c6, rfl⟩ := own_slice hown6; obtain ⟨g6, rfl, hg6a, hg6b⟩ := own_at hown6 (by have := HN64.out; omega); have B6 : Below w2.heap.size w2 w6 := (below_alloc1 (below_alloc1 BS.out)).grown hg6 (by simp <;> omega) (fun k hk => ((OWB.out).lt k hk).1); have X6 := XB.out.grown (g := w2.heap.size + 1) hg6 (by omega); have LB : w2.heap.size ≤ w2.heap.size := Nat.le_refl _; have X6a := X6.set 0 (.slice (some ⟨g6, 0, none⟩) n c6); have X6b := X6a.set 1 (.int .i64 h0); have X6c := X6b.set 2 (.int .i64 h1); have X6d := X6c.set 3 (.int .i64 h2); have y0 : World.cell? _ ⟨_, 0, none⟩ = some (.slice none 0 0) := X6.cell 0; have z0 := X6.frozen 0; have y1 : World.cell? _ ⟨_, 1, none⟩ = some (.int .i64 0) := X6a.cell 1; have z1 := X6a.frozen 1; have y2 : World.cell? _ ⟨_, 2, none⟩ = some (.int .i64 0) := X6b.cell 2; have z2 := X6b.frozen 2; have y3 : World.cell? _ ⟨_, 3, none⟩ = some (.int .i64 0) := X6c.cell 3; have z3 := X6c.frozen 3)
        | fail)
    · have F := laid_a3 (k0 := h0) (k1 := h1) (k2 := h2) B6 hown6 (by have := HN64.out; omega)
      clear B6 hg6 hg6a hg6b hown6
      generalize w6.alloc _ = w9 at F ⊢
      generalize w6.heap.size = b6 at F ⊢
      generalize w2.heap.size = l6 at F ⊢
      exact ⟨b6, g6, l6, c6, ⟨c6, F⟩, rfl⟩
    · have F := laid_b3 (k0 := h0) (k1 := h1) (k2 := h2) B6 LB X6 hown6 (by have := HN64.out; omega)
      clear X6a X6b X6c X6d y0 y1 y2 y3 z0 z1 z2 z3 X6 B6 hg6 hg6a hg6b hown6 LB
      generalize World.setCell _ _ _ = w9 at F ⊢
      generalize w2.heap.size + 1 = b6 at F ⊢
      generalize w2.heap.size = l6 at F ⊢
      exact ⟨b6, g6, l6, c6, ⟨c6, F⟩, rfl⟩
    · have F := laid_b3 (k0 := h0) (k1 := h1) (k2 := h2) B6 LB X6 hown6 (by have := HN64.out; omega)
      clear X6a X6b X6c X6d y0 y1 y2 y3 z0 z1 z2 z3 X6 B6 hg6 hg6a hg6b hown6 LB
      generalize World.setCell _ _ _ = w9 at F ⊢
      generalize w2.heap.size + 1 = l6 at F ⊢
      generalize w2.heap.size = b6 at F ⊢
      exact ⟨b6, g6, l6, c6, ⟨c6, F⟩, rfl⟩
  rintro w4 bw gw gz cz ⟨cw, hb4, hbb4, hgg4, x4, o4⟩
  obtain ⟨gw', hA4, hg4, hg4'⟩ := own_at o4 (by have := HN64.out; omega)
  obtain rfl : gw = gw' := by injection hA4 with h; injection h
  have H4 := Lib.hid (GP.below H2.out hb4)
  have XW4 := Lib.hid x4
  have OW4 := Lib.hid o4
  have G4 := Lib.hid (show w.heap.size + 1 < gw ∧ gw < w4.heap.size from ⟨by have := H2.out.2.1.2.2.2.2; omega, hg4'⟩)
  clear hb4 hbb4 hgg4 x4 o4 hA4 hg4 hg4' OWL BS XA XB OWB RD SO HLn a0 a1 a2 a3 al
  obtain ⟨c0, c1, c2, c3, c4, cl⟩ := id H4.out.1
  obtain ⟨a0, a1, a2, a3, al⟩ := id H4.out.2.1
  go_wp2_with fail
  refine (HPl.out _ (Rd.gp HRd.out H4.out) (HRs.out _ H4.out)).mono ?_
  rintro e w5 ⟨V5, ok, g5, p5, k0, k1, k2, qs, rfl, hown, hb⟩
  obtain ⟨g5', hA5, hg5, hg5'⟩ := own_at hown (by have := HN64.out; omega)
  obtain rfl : g5 = g5' := by injection hA5 with h; injection h
  have H5 := Lib.hid (GP.below H4.out hb)
  have O5 := Lib.hid hown
  have XW5 := Lib.hid (XW4.out.on hb)
  have OW5 := Lib.hid (own_below OW4.out hb)
  have G5 := Lib.hid (show w.heap.size + 1 < gw ∧ gw < g5 from ⟨G4.out.1, by have := G4.out.2; omega⟩)
  clear hb hown H4 XW4 OW4 G4 hA5 hg5 hg5' c0 c1 c2 c3 c4 cl a0 a1 a2 a3 al
  go_wp2_with (first
    | ((with_reducible refine wpList_pool_alloc (o := ⟨_, .alloc _, _, _, _, _⟩) rfl rfl ?_); intro u2 xb hu2 hs2; clear hs2)
    | ((with_reducible refine wpList_pool_store (o := ⟨none, .store _ _ _, _, _, _, _⟩) rfl _ _ rfl _ (some ⟨g5, 0, none⟩) none n 0 p5 0 k0 k1 k2 0 0 0 rfl rfl xb ?_); intro u4 xd hu4; have hv1 := hu2.grown hu4 hu2.size (fun k hk => by injection hk with hk; omega); have K0 := Lib.hid (KqS.mk (GP.below H5.out hv1) (XW5.out.on hv1) (own_base0 (own_below OW5.out hv1) (Nat.zero_le _)) xd (own_base0 (own_below O5.out hv1) (Nat.zero_le _)) G5.out.1 G5.out.2); clear xb hu2 hu4 hv1 xd H5 XW5 OW5 O5 G5; generalize w5.heap.size = bq at K0 ⊢)
    | fail)
  go_loopw [11] (fun i wr => ∃ k : Nat, k ≤ n ∧ i = .int .i64 k ∧ ∃ Y, KqS w wr conv soft seq size opn (some ad) n cap h0 h1 h2 ps bw gw cw bq g5 p5 k0 k1 k2 Y) (fun i _ => n - (intOf i).toNat)
  case atStart => exact ⟨0, by omega, rfl, _, K0.out⟩
  case round =>
    obtain ⟨k, hk, rfl, Y, hK⟩ := hrel
    have K1 := Lib.hid hK
    clear hK K0
    have hn64 := HN64.out
    obtain ⟨e0, e1, e2, e3, el⟩ := K1.out.xa.pool
    by_cases hlt : k < n
    · have hl := K1.out.oa.1
      obtain ⟨u, d1⟩ : ∃ u, wr.cell? ⟨g5, k, none⟩ = some u := ⟨_, (K1.out.oa.cellAt k (by omega)).trans (List.getElem?_eq_getElem (by omega))⟩
      have hf := K1.out.oa.frozenAt k
      have K2 := Lib.hid (K1.out.sa k (-7))
      clear hl
      go_wp2
      go_roundw
      case rel => exact ⟨k + 1, by omega, by go_num, _, K2.out⟩
      case measure => first | (simp [intOf]; done) | (simp [intOf]; omega)
    · have hd : decide ((k : Int) < (n : Int)) = false := decide_eq_false (by omega)
      obtain ⟨c0, c1, c2, c3, c4, cl⟩ := id K1.out.gp.1
      obtain ⟨a0, a1, a2, a3, al⟩ := id K1.out.gp.2.1
      go_wp2_with fail
      refine (HFi.out _ (Rd.gp HRd.out K1.out.gp)).mono ?_
      rintro e v1 ⟨rfl, hb⟩
      have K2 := Lib.hid (K1.out.on hb)
      clear hb e0 e1 e2 e3 el c0 c1 c2 c3 c4 cl a0 a1 a2 a3 al
      obtain ⟨a0, a1, a2, a3, al⟩ := id K2.out.gp.2.1
      obtain ⟨b0, b1, b2, b3, bl⟩ := K2.out.xw.pool
      have HSm := Lib.hid (rpsame_any (some ad) (some ⟨gw, 0, none⟩) n cap n cw h0 h1 h2 h0 h1 h2 ps ps v1 (by simp only [maxLen]; omega) (by simp only [maxLen]; omega) HN.out HN.out (Rd.gp HRd.out K2.out.gp) (Rd.own K2.out.ow))
      rw [psame_refl] at HSm
      go_wp2_with fail
      refine HSm.out.mono ?_
      rintro e v2 ⟨rfl, hb⟩
      go_wp2
      go_ret
      exact ⟨rfl, bthen K2.out.gp.2.2 hb⟩
end Go.Proofs.Ytbhcemipjfdemaa

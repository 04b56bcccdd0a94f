/-
  Package lane: a step said by the plan's mathematics; Plan.
-/
import Derived.Test.YtbhcemipjfdemaaLaA
import Derived.Test.YtbhcemipjfdemaaLaM
import Derived.Test.YtbhcemipjfdemaaPrs
import Derived.StillTailTactics
namespace Go.Proofs.Ytbhcemipjfdemaa
open Go.RowKit Geom Leaf Pol
set_option linter.unusedVariables false

abbrev isn (ss : List Nat) : List Value := is (ss.map Int.ofNat)
theorem isn_length (ss : List Nat) : (isn ss).length = ss.length := by simp [is]
section
variable (conv soft seq size opn : Int) (A : Option Addr) (n cap : Nat) (p q : PS) (z x : Int) (s : Nat)
theorem lstep_yes (w : World) (hm : n ≤ 64) (hn : p.ps.length = n) (S : Some conv seq size) (R : Rt conv seq size p) (hr : Rd w w.heap.size A (is p.ps)) (hs : s < 3) (h : stp conv size p s = some ((z, x), q)) :
    Calls Try.prog 29 #[pgv conv soft seq size opn, ppv A n cap p.h0 p.h1 p.h2, .int .i64 s] w fun e w' => ∃ g c, e = .returned (.tuple #[.agg #[.int .i64 z, .int .i64 x], ppv (some ⟨g, 0, none⟩) n c q.h0 q.h1 q.h2, .bool true]) ∧ w'.ownsRow w.heap.size 3 1 (.slice (some ⟨g, 0, none⟩) n c) n (is q.ps) ∧ Below w.heap.size w w' := by
  obtain ⟨j, y, G, h1, rfl⟩ := stp_go R S hs h
  obtain ⟨rfl, rfl⟩ : z = conv + j ∧ x = y := by simpa using h1
  exact pstep_go conv soft seq size opn A n cap p.ps p.h0 p.h1 p.h2 s j x w hm hn S R hr G
theorem lstep_no (w : World) (hm : n ≤ 64) (hn : p.ps.length = n) (S : Some conv seq size) (R : Rt conv seq size p) (hr : Rd w w.heap.size A (is p.ps)) (hs : s < 3) (h : stp conv size p s = none) :
    Calls Try.prog 29 #[pgv conv soft seq size opn, ppv A n cap p.h0 p.h1 p.h2, .int .i64 s] w fun e w' => ∃ g c, e = .returned (.tuple #[.agg #[.int .i64 0, .int .i64 0], ppv (some ⟨g, 0, none⟩) n c p.h0 p.h1 p.h2, .bool false]) ∧ w'.ownsRow w.heap.size 3 1 (.slice (some ⟨g, 0, none⟩) n c) n (is p.ps) ∧ Below w.heap.size w w' := by
  have hp : pick conv p.ps p.h0 p.h1 p.h2 n s = none := by
    unfold stp at h
    rw [hn] at h
    cases hp : pick conv p.ps p.h0 p.h1 p.h2 n s with
    | none => rfl
    | some z => rw [hp] at h; cases h
  exact pstep_none conv soft seq size opn A n cap p.ps p.h0 p.h1 p.h2 s w hm hn S R hr hs hp
theorem rlstep_yes (w : World) (hm : n ≤ 64) (hn : p.ps.length = n) (S : Some conv seq size) (R : Rt conv seq size p) (hr : Rd w w.heap.size A (is p.ps)) (hs : s < 3) (h : stp conv size p s = some ((z, x), q)) :
    Calls Try.prog 30 #[pgv conv soft seq size opn, ppv A n cap p.h0 p.h1 p.h2, .int .i64 s] w fun e w' => ∃ g c, e = .returned (.tuple #[.agg #[.int .i64 z, .int .i64 x], ppv (some ⟨g, 0, none⟩) n c q.h0 q.h1 q.h2, .bool true]) ∧ w'.ownsRow w.heap.size 3 1 (.slice (some ⟨g, 0, none⟩) n c) n (is q.ps) ∧ Below w.heap.size w w' := by
  obtain ⟨j, y, G, h1, rfl⟩ := stp_go R S hs h
  obtain ⟨rfl, rfl⟩ : z = conv + j ∧ x = y := by simpa using h1
  refine (rpstep_go conv soft seq size opn A n cap p.ps p.h0 p.h1 p.h2 s j x w hm hn S R hr G).mono ?_
  rintro e w' ⟨A', c, h1, h2, h3⟩
  have := G.hj
  obtain ⟨g, rfl, _, _⟩ := own_at h2 (by omega)
  exact ⟨g, c, h1, h2, h3⟩
theorem rlstep_no (w : World) (hm : n ≤ 64) (hn : p.ps.length = n) (S : Some conv seq size) (R : Rt conv seq size p) (hr : Rd w w.heap.size A (is p.ps)) (hs : s < 3) (h : stp conv size p s = none) :
    Calls Try.prog 30 #[pgv conv soft seq size opn, ppv A n cap p.h0 p.h1 p.h2, .int .i64 s] w fun e w' => e = .returned (.tuple #[.agg #[.int .i64 0, .int .i64 0], ppv A n cap p.h0 p.h1 p.h2, .bool false]) ∧ Below w.heap.size w w' := by
  have hp : pick conv p.ps p.h0 p.h1 p.h2 n s = none := by
    unfold stp at h
    rw [hn] at h
    cases hp : pick conv p.ps p.h0 p.h1 p.h2 n s with
    | none => rfl
    | some z => rw [hp] at h; cases h
  exact rpstep_pick conv soft seq size opn A n cap p.ps p.h0 p.h1 p.h2 s w hm hn S R hr hs hp
end
/-- a pool's variable takes another pool -/
theorem HdSt.put {w w' w2 : World} {r base b g c g2 c2 : Nat} {conv soft seq size opn : Int} {A : Option Addr} {n cap : Nat} {h0 h1 h2 : Int} {ps qs : List Int} {k0 k1 k2 m0 m1 m2 : Int}
    (h : HdSt w w' r base b g c conv soft seq size opn A n cap h0 h1 h2 ps k0 k1 k2) (hn : 0 < n) (ho : w'.ownsRow base 3 1 (.slice (some ⟨g2, 0, none⟩) n c2) n (is qs)) (hne : g2 ≠ b)
    (hx : Box w2 b 27 (plcs (some ⟨g2, 0, none⟩) n c2 m0 m1 m2)) (hg : w'.grownBy w2 (some b)) : HdSt w w2 r base b g2 c2 conv soft seq size opn A n cap h0 h1 h2 qs m0 m1 m2 := by
  have h1' := h.hw
  have h2' := h.hr
  have h4' := h.hb
  obtain ⟨g', hA, h5, h6⟩ := own_at ho hn
  obtain rfl : g2 = g' := by injection hA with e; injection e
  exact ⟨h.gp.grown hg (by omega), h.rs.grown hg (by omega), hx, own_grown ho hg hne, h.hw, h.hr, h.hb, by omega, Nat.lt_of_lt_of_le h6 hg.size⟩
/-- another row grows -/
theorem HdSt.swell {w w' w2 : World} {r base b g c : Nat} {conv soft seq size opn : Int} {A : Option Addr} {n cap : Nat} {h0 h1 h2 : Int} {ps : List Int} {k0 k1 k2 : Int} {e : TypeId} {sz m : Nat} {V : Value} {xs : List Value}
    (h : HdSt w w' r base b g c conv soft seq size opn A n cap h0 h1 h2 ps k0 k1 k2) (ho : w'.ownsRow base e sz V m xs) (h1e : 27 ≠ e) (h2e : g ∉ V.ownBlock.toList) (hg : w'.grownBy w2 V.ownBlock) :
    HdSt w w2 r base b g c conv soft seq size opn A n cap h0 h1 h2 ps k0 k1 k2 := by
  cases hV : V.ownBlock with
  | none =>
    rw [hV] at hg
    have hb : Below w'.heap.size w' w2 := (Below.refl _ _).grown hg (Nat.le_refl _) (fun k hk => by cases hk)
    exact h.on hb
  | some k =>
    rw [hV] at hg h2e
    have hk := (ho.lt k hV).1
    have hne := h.q.ne_row ho hV h1e
    have h1' := h.hw
    have h2' := h.hr
    exact ⟨h.gp.grown hg (by omega), h.rs.grown hg (by omega), h.q.grown hg hne, own_grown h.own hg (by simpa using h2e), h.hw, h.hr, h.hb, h.hg.1, Nat.lt_of_lt_of_le h.hg.2 hg.size⟩
/-- a row stays where a variable of another type is laid -/
theorem own_var {w w' : World} {base b sz m : Nat} {e T : TypeId} {V : Value} {xs cs : List Value} (h : w.ownsRow base e sz V m xs) (hx : Box w b T cs) (hT : T ≠ e) (hg : w.grownBy w' (some b)) : w'.ownsRow base e sz V m xs := by
  rcases h.2 with ⟨rfl, rfl⟩ | ⟨g, cap, cur, rfl, _⟩
  · exact ⟨h.1, .inl ⟨rfl, rfl⟩⟩
  · exact own_grown h hg (Ne.symm (hx.ne_row h rfl hT))
/-- rows of unlike types lie apart -/
theorem own_apart {w : World} {base base' g c n sz m : Nat} {e e' : TypeId} {V : Value} {xs ys : List Value} (h : w.ownsRow base e 1 (.slice (some ⟨g, 0, none⟩) n c) n xs) (h' : w.ownsRow base' e' sz V m ys) (hn : 0 < n) (he : e ≠ e') : g ∉ V.ownBlock.toList := by
  rcases h'.2 with ⟨rfl, rfl⟩ | ⟨g', cap, cur, rfl, _, hc, _⟩
  · simp [Value.ownBlock]
  · rcases h.2 with ⟨hv, _⟩ | ⟨g2, cap2, cur2, hv, _, hc2, _⟩
    · cases hv
    obtain rfl : g = g2 := by injection hv with a; injection a with a; injection a
    simp only [Value.ownBlock, Option.toList_some, List.mem_singleton]
    rintro rfl
    rw [hc2] at hc
    injection hc with hc
    injection hc with _ hc
    exact he hc
theorem row_swell {w w2 : World} {base base' g c n sz m : Nat} {e e' : TypeId} {V : Value} {xs ys : List Value} (h : w.ownsRow base e 1 (.slice (some ⟨g, 0, none⟩) n c) n xs) (h' : w.ownsRow base' e' sz V m ys) (hn : 0 < n) (he : e ≠ e') (hg : w.grownBy w2 V.ownBlock) :
    w2.ownsRow base e 1 (.slice (some ⟨g, 0, none⟩) n c) n xs := by
  have hne := own_apart h h' hn he
  cases hV : V.ownBlock with
  | none =>
    rw [hV] at hg
    exact own_below h ((Below.refl _ _).grown hg (Nat.le_refl _) (fun k hk => by cases hk))
  | some k =>
    rw [hV] at hg hne
    exact own_grown h hg (by simpa using hne)
theorem box_swell {w w2 : World} {base' b sz m : Nat} {T e' : TypeId} {V : Value} {cs ys : List Value} (h : Box w b T cs) (h' : w.ownsRow base' e' sz V m ys) (he : T ≠ e') (hg : w.grownBy w2 V.ownBlock) : Box w2 b T cs := by
  cases hV : V.ownBlock with
  | none =>
    rw [hV] at hg
    exact h.on ((Below.refl _ _).grown hg (Nat.le_refl _) (fun k hk => by cases hk))
  | some k =>
    rw [hV] at hg
    exact h.grown hg (h.ne_row h' hV he)
section
variable (conv soft seq size opn : Int) (A : Option Addr) (n cap : Nat) (ps : List Int) (h0 h1 h2 : Int)
set_option maxRecDepth 100000 in
set_option maxHeartbeats 8000000 in
theorem lplan_any (As : Option Addr) (m cs : Nat) (ss : List Nat) (w : World) (hm : n ≤ 64) (hn : ps.length = n) (S : Some conv seq size) (R : Ri conv seq size ps h0 h1 h2) (hr : Rd w w.heap.size A (is ps))
    (hs : ∀ s ∈ ss, s < 3) (hsl : ss.length = m) (hsm : m ≤ 40000) (hrs : Rd w w.heap.size As (isn ss)) :
    Calls Try.prog 13 #[pgv conv soft seq size opn, ppv A n cap h0 h1 h2, .slice As m cs] w fun e w' =>
      (planX conv size ss ⟨ps, h0, h1, h2⟩ = none ∧ ∃ g c, e = .returned (.tuple #[.slice none 0 0, ppv (some ⟨g, 0, none⟩) n c h0 h1 h2, .bool false]) ∧ w'.ownsRow w.heap.size 3 1 (.slice (some ⟨g, 0, none⟩) n c) n (is ps) ∧ Below w.heap.size w w') ∨
      (∃ l q, planX conv size ss ⟨ps, h0, h1, h2⟩ = some (l, q) ∧ ∃ V g c, e = .returned (.tuple #[V, ppv (some ⟨g, 0, none⟩) n c q.h0 q.h1 q.h2, .bool true]) ∧ w'.ownsRow w.heap.size 48 2 V l.length (ccs l) ∧ w'.ownsRow w.heap.size 3 1 (.slice (some ⟨g, 0, none⟩) n c) n (is q.ps) ∧ Below w.heap.size w w') := by
  have H0 := Lib.hid (GP.res w conv soft seq size opn A n cap h0 h1 h2)
  have hp : 0 < n := by have := R.len; have := S.2.1; omega
  have HC := Lib.hid fun w' (h : GP w w' conv soft seq size opn A n cap h0 h1 h2) => lcopied_any A n cap ps h0 h1 h2 w' hm hn hp (hr.gp h)
  have HRs := Lib.hid fun w' (h : GP w w' conv soft seq size opn A n cap h0 h1 h2) => Rd.gp hrs h
  have HP := Lib.hid hp
  have HN := Lib.hid hn
  have HM := Lib.hid hm
  have HS := Lib.hid S
  have HSs := Lib.hid hs
  have HSl := Lib.hid hsl
  have HRt : Hid (Rt conv seq size ⟨ps, h0, h1, h2⟩) := Lib.hid R
  clear hr R S hn hs hp hm hrs hsl
  generalize hp0 : (⟨ps, h0, h1, h2⟩ : PS) = p0 at *
  have HP0 := Lib.hid hp0
  clear hp0
  go_enter Try.func13, Try.ntmps13
  go_wp2_with fail
  generalize World.alloc _ _ = w0 at H0 ⊢
  obtain ⟨a0, a1, a2, a3, al⟩ := id H0.out.1.2.1
  go_wp2_with fail
  refine (HC.out _ H0.out.1).mono ?_
  rintro e w1 ⟨g, c, rfl, hown, hb⟩
  have HB := Lib.hid hb
  have HO := Lib.hid hown
  clear a0 a1 a2 a3 al hb hown
  go_wp2_with (first
    | ((with_reducible refine wpList_pool_alloc (o := ⟨_, .alloc _, _, _, _, _⟩) rfl rfl ?_); intro w2 x2 hb2 hs2; clear hs2)
    | ((with_reducible refine wpList_pool_store (o := ⟨none, .store _ _ _, _, _, _, _⟩) rfl _ _ rfl _ (some ⟨g, 0, none⟩) none n 0 c 0 h0 h1 h2 0 0 0 rfl rfl x2 ?_); intro w3 x3 hg3; have H3 := Lib.hid (HdSt.made H0.out.1 H0.out.2 (show w.heap.size + 1 < w.heap.size + 1 + 1 by omega) HB.out HO.out HP.out hb2 x2 x3 hg3); clear x2 x3 hb2 hg3; generalize w1.heap.size = b at H3 ⊢)
    | fail)
  generalize w0.heap.size = base at H3
  have HD3 : Hid (HdSt w w3 (w.heap.size + 1 + 1) base b g c conv soft seq size opn A n cap h0 h1 h2 p0.ps p0.h0 p0.h1 p0.h2) := Lib.hid (by rw [← HP0.out]; exact H3.out)
  have HNp : Hid (p0.ps.length = n) := Lib.hid (by rw [← HP0.out]; exact HN.out)
  clear H3 HO HB H0
  go_loopw [10, 20] (fun V i wr => ∃ (k : Nat) (l : List (Int × Int)) (q : PS) (g c : Nat), k ≤ m ∧ i = .int .i64 k ∧ planX conv size (ss.take k) p0 = some (l, q) ∧ HdSt w wr (w.heap.size + 1 + 1) base b g c conv soft seq size opn A n cap h0 h1 h2 q.ps q.h0 q.h1 q.h2 ∧ wr.ownsRow base 48 2 V l.length (ccs l)) (fun _ i _ => m - (intOf i).toNat)
  case atStart => exact ⟨0, [], p0, g, c, by omega, rfl, rfl, HD3.out, World.ownsRow_nil _ _ _ _⟩
  case round =>
    obtain ⟨k, l, q, g1, c1, hk, rfl, hpl, hst, hout⟩ := hrel
    obtain ⟨hq1, hq2, hq3, hq4⟩ := plan_rt HS.out (ss.take k) p0 HRt.out (fun s h => HSs.out s (List.mem_of_mem_take h)) l q hpl
    have hll : l.length = k := by rw [hq3, List.length_take, HSl.out]; omega
    have HQ := Lib.hid (show Rt conv seq size q ∧ q.ps.length = n from ⟨hq1, hq2.trans HNp.out⟩)
    have HPl := Lib.hid hpl
    have HT := Lib.hid hst
    have HO := Lib.hid hout
    have HLl := Lib.hid hll
    clear hq1 hq2 hq3 hq4 hpl hst hout hll HD3
    obtain ⟨c0, c1', c2, c3, c4, cl⟩ := id HT.out.gp.1
    obtain ⟨b0, b1, b2, b3, bl⟩ := HT.out.q.pool
    by_cases hlt : k < m
    rotate_left
    · obtain rfl : k = m := by omega
      have HF := Lib.hid (show planX conv size ss p0 = some (l, q) by have := HPl.out; rwa [← HSl.out, List.take_length] at this)
      have hdk : decide ((k : Int) < (k : Int)) = false := decide_eq_false (by omega)
      generalize hk0 : q.h0 = k0 at *
      generalize hk1 : q.h1 = k1 at *
      generalize hk2 : q.h2 = k2 at *
      have HK := Lib.hid (And.intro hk0 (And.intro hk1 hk2))
      clear hk0 hk1 hk2
      go_wp2_with fail
      go_still_tail 3, (by kernel_rfl)
      change wpList _ _ _ _ _ wr.drew
      have H4 := Lib.hid HT.out.drew
      have HO4 : Hid (wr.drew.ownsRow base 48 2 u10 l.length (ccs l)) := Lib.hid HO.out
      generalize wr.drew = w4 at H4 HO4 ⊢
      clear c0 c1' c2 c3 c4 cl b0 b1 b2 b3 bl HT HO
      go_wp2_with ((with_reducible refine wpList_pool_store (o := ⟨none, .store _ _ _, _, _, _, _⟩) rfl _ _ rfl _ (some ⟨g1, 0, none⟩) none n 0 c1 0 k0 k1 k2 0 0 0 rfl rfl H4.out.rs ?_); intro w9 x9 hg9; have HF9 := Lib.hid (H4.out.gp.2.2.grown hg9 H4.out.gp.2.2.size (fun k hk => by injection hk with hk; omega)); have HO9 := Lib.hid (own_base0 (own_grown H4.out.own hg9 (by have := H4.out.hg.1; have := H4.out.hr; omega)) (by have := H4.out.hw; have := H4.out.hr; omega : w.heap.size ≤ base)); have HV9 := Lib.hid (own_base0 (own_var HO4.out H4.out.rs (by decide) hg9) (by have := H4.out.hw; have := H4.out.hr; omega : w.heap.size ≤ base)); obtain ⟨r0, r1, r2, r3, rl⟩ := Box.pool x9; clear hg9 x9)
      exact bodyPost_ret (v := .tuple #[u10, ppv (some ⟨g1, 0, none⟩) n c1 k0 k1 k2, .bool true]) (by simp [results, Try.results13, go_sem, r0, r1, r2, r3]) rfl (Or.inr ⟨l, q, HF.out, u10, g1, c1, by rw [HK.out.1, HK.out.2.1, HK.out.2.2], HV9.out, HO9.out, HF9.out⟩)
    have hdk : decide ((k : Int) < (m : Int)) = true := decide_eq_true (by omega)
    obtain ⟨s, hs⟩ : ∃ s, ss[k]? = some s := ⟨ss[k]'(by rw [HSl.out]; exact hlt), by simp [HSl.out, hlt]⟩
    have hs3 := HSs.out s (List.mem_of_getElem? hs)
    obtain ⟨ad, rfl, _, hcs⟩ := (HRs.out _ HT.out.gp).at (k := k) (u := .int .i64 s) (by simp [is, hs])
    have HSk := Lib.hid hs
    have HS3 := Lib.hid hs3
    have HRd := Lib.hid (Rd.own HT.out.own)
    cases hstp : stp conv size q s with
    | none =>
      have HSt := Lib.hid (lstep_no conv soft seq size opn (some ⟨g1, 0, none⟩) n c1 q s wr HM.out HQ.out.2 HS.out HQ.out.1 HRd.out hs3 hstp)
      have HF := Lib.hid (plan_stop HPl.out hs hstp)
      clear hs hs3 hstp
      generalize hk0 : q.h0 = k0 at *
      generalize hk1 : q.h1 = k1 at *
      generalize hk2 : q.h2 = k2 at *
      go_wp2_with fail
      refine HSt.out.mono ?_
      rintro e w6 ⟨g6, p6, rfl, hown, hb⟩
      have H6 := Lib.hid (HT.out.on hb)
      clear hb hown c0 c1' c2 c3 c4 cl b0 b1 b2 b3 bl HSt hcs HT HO HRd
      go_wp2_with (first
        | ((with_reducible refine wpList_pat_alloc (o := ⟨_, .alloc _, _, _, _, _⟩) rfl rfl ?_); intro u1 xa hu1 hs1)
        | ((with_reducible refine wpList_pool_alloc (o := ⟨_, .alloc _, _, _, _, _⟩) rfl rfl ?_); intro u2 xb hu2 hs2; have xa2 := xa.on hu2)
        | ((with_reducible refine wpList_pat_store (o := ⟨none, .store _ _ _, _, _, _, _⟩) rfl _ _ rfl _ 0 0 0 0 rfl rfl xa2 ?_); intro u3 xc hu3; have xb3 := xb.grown hu3 (xb.ne xa2 (by decide)))
        | ((with_reducible refine wpList_pool_store (o := ⟨none, .store _ _ _, _, _, _, _⟩) rfl _ _ rfl _ (some ⟨g6, 0, none⟩) none n 0 p6 0 k0 k1 k2 0 0 0 rfl rfl xb3 ?_); intro u4 xd hu4; have hv := vars_laid hu1 hs1 hu2 hu3 hu4 xc xd; clear xa xb xa2 xb3 xc xd hu1 hs1 hu2 hs2 hu3 hu4; generalize u1.heap.size = bp7 at hv ⊢; generalize hba : w6.heap.size = ba7 at hv ⊢; have hv1 := hv.1; rw [← hba] at hv1; have H7 := Lib.hid (H6.out.on hv1); clear H6; have XA7 := Lib.hid hv.2.1; have XP7 := Lib.hid hv.2.2; have HV7 := Lib.hid hv1; clear hv hv1 hba; generalize u4 = w7 at *; obtain ⟨a0, a1, a2, a3, al⟩ := id H7.out.gp.2.1)
        | fail)
      refine (HC.out _ H7.out.gp).mono ?_
      rintro e w8 ⟨g8, p8, rfl, hown, hb⟩
      have H8 := Lib.hid (H7.out.on hb)
      have HO8 := Lib.hid (own_base0 hown (show w.heap.size ≤ w7.heap.size from H7.out.gp.2.2.size))
      have HG8 := Lib.hid (show w.heap.size + 1 + 1 < g8 by obtain ⟨g', hA, h1', _⟩ := own_at hown HP.out; obtain rfl : g8 = g' := by injection hA with h; injection h
                                                            have := H7.out.rs.lt; omega)
      clear hb hown H7 HV7 XA7 XP7
      go_wp2_with ((with_reducible refine wpList_pool_store (o := ⟨none, .store _ _ _, _, _, _, _⟩) rfl _ _ rfl _ (some ⟨g8, 0, none⟩) none n 0 p8 0 h0 h1 h2 0 0 0 rfl rfl H8.out.rs ?_); intro w9 x9 hg9; have HF9 := Lib.hid (H8.out.gp.2.2.grown hg9 H8.out.gp.2.2.size (fun k hk => by injection hk with hk; omega)); have HO9 := Lib.hid (own_grown HO8.out hg9 (by have := HG8.out; omega)); obtain ⟨r0, r1, r2, r3, rl⟩ := Box.pool x9; clear hg9 x9)
      exact bodyPost_ret (v := .tuple #[.slice none 0 0, ppv (some ⟨g8, 0, none⟩) n p8 h0 h1 h2, .bool false]) (by simp [results, Try.results13, go_sem, r0, r1, r2, r3]) rfl (Or.inl ⟨HF.out, g8, p8, rfl, HO9.out, HF9.out⟩)
    | some aq =>
      obtain ⟨⟨z, x⟩, q'⟩ := aq
      have HSt := Lib.hid (lstep_yes conv soft seq size opn (some ⟨g1, 0, none⟩) n c1 q q' z x s wr HM.out HQ.out.2 HS.out HQ.out.1 HRd.out hs3 hstp)
      have HF := Lib.hid (plan_more HPl.out hs hstp)
      clear hs hs3 hstp
      generalize hk0 : q.h0 = k0 at *
      generalize hk1 : q.h1 = k1 at *
      generalize hk2 : q.h2 = k2 at *
      generalize hm0 : q'.h0 = m0 at *
      generalize hm1 : q'.h1 = m1 at *
      generalize hm2 : q'.h2 = m2 at *
      have HMq := Lib.hid (And.intro hm0 (And.intro hm1 hm2))
      clear hm0 hm1 hm2 hk0 hk1 hk2
      go_wp2_with fail
      refine HSt.out.mono ?_
      rintro e w6 ⟨g6, p6, rfl, hown, hb⟩
      have H6 := Lib.hid (HT.out.on hb)
      have HO6 := Lib.hid (own_below HO.out hb)
      have HR6 := Lib.hid (own_base0 hown (Nat.le_trans HT.out.hb (Nat.le_of_lt HT.out.q.lt)))
      have HN6 := Lib.hid (show g6 ≠ b by obtain ⟨g', hA, h1', _⟩ := own_at hown HP.out; obtain rfl : g6 = g' := by injection hA with h; injection h
                                          have := HT.out.q.lt; omega)
      clear hb hown c0 c1' c2 c3 c4 cl b0 b1 b2 b3 bl HSt hcs HT HO HRd
      go_wp2_with (first
        | ((with_reducible refine wpList_pat_alloc (o := ⟨_, .alloc _, _, _, _, _⟩) rfl rfl ?_); intro u1 xa hu1 hs1)
        | ((with_reducible refine wpList_pool_alloc (o := ⟨_, .alloc _, _, _, _, _⟩) rfl rfl ?_); intro u2 xb hu2 hs2; have xa2 := xa.on hu2)
        | ((with_reducible refine wpList_pat_store (o := ⟨none, .store _ _ _, _, _, _, _⟩) rfl _ _ rfl _ z x 0 0 rfl rfl xa2 ?_); intro u3 xc hu3; have xb3 := xb.grown hu3 (xb.ne xa2 (by decide)))
        | ((with_reducible refine wpList_pool_store (o := ⟨none, .store _ _ _, _, _, _, _⟩) rfl _ _ rfl _ (some ⟨g6, 0, none⟩) none n 0 p6 0 m0 m1 m2 0 0 0 rfl rfl xb3 ?_); intro u4 xd hu4; have hv := vars_laid hu1 hs1 hu2 hu3 hu4 xc xd; clear xa xb xa2 xb3 xc xd hu1 hs1 hu2 hs2 hu3 hu4; generalize u1.heap.size = bp7 at hv ⊢; generalize hba : w6.heap.size = ba7 at hv ⊢; have hv1 := hv.1; rw [← hba] at hv1; have H7 := Lib.hid (H6.out.on hv1); have HO7 := Lib.hid (own_below HO6.out hv1); have HR7 := Lib.hid (own_below HR6.out hv1); clear H6 HO6 HR6; have XA7 := Lib.hid hv.2.1; have XP7 := Lib.hid hv.2.2; have HV7 := Lib.hid hv1; clear hv hv1 hba; generalize u4 = w7 at *; obtain ⟨d0, d0'⟩ := XA7.out.at2; have hBs := Nat.le_trans H7.out.hb (Nat.le_of_lt H7.out.q.lt))
        | (at_builtin; (refine wpList_append_new _ rfl _ _ _ rfl base 48 _ 2 16 elemAt u10 l.length _ rfl [.int .i64 z, .int .i64 x] rfl HO7.out rfl (by simp [Value.oneCell']) (by have := HLl.out; simp only [maxLen]; omega) (by have := HLl.out; omega) hBs ?_); intro V8 w8 hown8 hg8; have H8 := Lib.hid (H7.out.swell HO7.out (by decide) (own_apart H7.out.own HO7.out HP.out (by decide)) hg8); have HR8 := Lib.hid (row_swell HR7.out HO7.out HP.out (by decide) hg8); have XP8 := Lib.hid (box_swell XP7.out HO7.out (by decide) hg8); have HO8 := Lib.hid hown8; clear d0 d0' hBs hown8 hg8; obtain ⟨b0, b1, b2, b3, bl⟩ := XP8.out.pool)
        | ((with_reducible refine wpList_pool_store (o := ⟨none, .store _ _ _, _, _, _, _⟩) rfl _ _ rfl _ (some ⟨g6, 0, none⟩) (some ⟨g1, 0, none⟩) n n p6 c1 m0 m1 m2 k0 k1 k2 rfl rfl H8.out.q ?_); intro w9 x9 hg9; have H9 := Lib.hid (H8.out.put HP.out HR8.out HN6.out x9 hg9); have HO9 := Lib.hid (own_var HO8.out H8.out.q (by decide) hg9); clear x9 hg9)
        | fail)
      go_roundw
      case rel =>
        refine ⟨k + 1, l ++ [(z, x)], q', g6, p6, by omega, by go_num, HF.out, ?_, ?_⟩
        · rw [HMq.out.1, HMq.out.2.1, HMq.out.2.2]
          exact H9.out
        · have := HO9.out
          rw [ccs_append, List.length_append]
          exact this
      case measure => first | (simp [intOf]; done) | (simp [intOf]; omega)
end
end Go.Proofs.Ytbhcemipjfdemaa

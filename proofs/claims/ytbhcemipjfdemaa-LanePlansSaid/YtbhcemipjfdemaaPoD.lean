/-
  Package pool: the zones with a point; Full; slices' IndexFunc and DeleteFunc of numbers; Free.
-/
import Derived.Test.YtbhcemipjfdemaaPoC
import Derived.Lib.SliceRun
import Derived.Laws.OwnMore
namespace Go.Proofs.Ytbhcemipjfdemaa
open Go.RowKit Geom Leaf Pol
set_option linter.unusedVariables false

theorem pis_append (a b : List Int) : is (a ++ b) = is a ++ is b := by simp [is]
theorem pis_one1 (x : Int) : is [x] = [.int .i64 x] := rfl
theorem pzero_int (w : World) : (zeroValue 3).run Try.prog w = .ok (.int .i64 0) w := by go_simp
theorem own_setCells {base g n c : Nat} {e : TypeId} : ∀ (vs : List Value) (o : Nat) (w : World) (xs : List Value), w.ownsRow base e 1 (.slice (some ⟨g, 0, none⟩) n c) n xs → o + vs.length ≤ n →
    ∃ ys, (w.setCells g o vs).ownsRow base e 1 (.slice (some ⟨g, 0, none⟩) n c) n ys ∧ ys.take o = xs.take o ∧ w.grownBy (w.setCells g o vs) (some g)
  | [], o, w, xs, h, _ => ⟨xs, h, rfl, World.grownBy.refl w _⟩
  | v :: vs, o, w, xs, h, ho => by
    obtain ⟨h1, h2⟩ := h.stored o v
    obtain ⟨ys, h3, h4, h5⟩ := own_setCells vs (o + 1) (w.setCell ⟨g, o, none⟩ v) (xs.set o v) h1 (by simp at ho; omega)
    refine ⟨ys, h3, ?_, h2.trans h5⟩
    have := congrArg (List.take o) h4
    rw [List.take_take, List.take_take, Nat.min_eq_left (by omega)] at this
    rw [this]
    apply List.ext_getElem?
    intro j
    rw [List.getElem?_take, List.getElem?_take]
    by_cases hj : j < o
    · rw [if_pos hj, if_pos hj, List.getElem?_set_ne (by omega)]
    · rw [if_neg hj, if_neg hj]
/-- the first elements of a row of the call's own -/
theorem own_front {w : World} {base g n c i : Nat} {e : TypeId} {xs : List Value} (h : w.ownsRow base e 1 (.slice (some ⟨g, 0, none⟩) n c) n xs) (hi : i ≤ n) : w.ownsRow base e 1 (.slice (some ⟨g, 0, none⟩) i c) i (xs.take i) := by
  obtain ⟨hl, h2⟩ := h
  rcases h2 with ⟨hv, _⟩ | ⟨g', cap, cur, hv, hgb, hheap, hnc, hcm, hcs, htk⟩
  · cases hv
  injection hv with a b c'
  subst c'
  injection a with a
  injection a with a
  subst a
  refine ⟨by simp at hl ⊢; omega, .inr ⟨g, c, cur, rfl, hgb, hheap, by omega, hcm, hcs, ?_⟩⟩
  rw [← htk, List.take_take, Nat.min_eq_left (by omega), Nat.mul_one]
/-- 'clear' of the tail of a row of the call's own, of elements of one cell -/
theorem wpList_clear_tail {P : Program} (w : World) {ops : Array Oper} {rest : List Oper} {o : Oper} {a : Act} {Q : Exit → Act → World → Prop} (hgd : o.guard = none) (x : Operand) (t e : TypeId) (ho : o.op = .call { callee := .builtin .clear, args := #[x], argTypes := #[t] })
    (ht : P.underlying t = some (.slice e)) (z : Value) (hz : ∀ w, (zeroValue e).run P w = .ok z w) (hz1 : z.cells = #[z]) (hz2 : z.oneCell' = true) (base g n c i m : Nat) (cp : Nat) (xs : List Value) (hx : a.eval x = .slice (some ⟨g, i, none⟩) m cp) (hm : i + m = n)
    (hown : w.ownsRow base e 1 (.slice (some ⟨g, 0, none⟩) n c) n xs)
    (h : ∀ w', w'.ownsRow base e 1 (.slice (some ⟨g, 0, none⟩) i c) i (xs.take i) → w.grownBy w' (some g) → wpList P ops Q rest (a.put o.dst (.tuple #[])) w') : wpList P ops Q (o :: rest) a w := by
  refine wpList_plain hgd fun K hK => ?_
  have hrun : ∃ w', (Builtin.clear_ #[t] o.type #[.slice (some ⟨g, i, none⟩) m cp]).run P w = .ok (.tuple #[]) w' ∧ w'.ownsRow base e 1 (.slice (some ⟨g, 0, none⟩) i c) i (xs.take i) ∧ w.grownBy w' (some g) := by
    rcases Nat.eq_zero_or_pos m with h0 | h0
    · subst h0
      exact ⟨w, by simp [Builtin.clear_, run_underlying ht], own_front hown (by omega), World.grownBy.refl w _⟩
    · obtain ⟨ys, h1, h2, h3⟩ := own_setCells (List.replicate m z) i w xs hown (by simp; omega)
      have h4 := own_front (i := i) h1 (by omega)
      rw [h2] at h4
      refine ⟨_, Lib.run_clear_slice w t e o.type z ht hz hz1 hz2 g i m cp h0 (fun j hj => ?_) (fun j _ => hown.frozenAt _), h4, h3⟩
      have hl := hown.1
      rw [hown.cellAt (i + j) (by omega), List.getElem?_eq_getElem (by omega)]
      rfl
  obtain ⟨w', hr, h1, h2⟩ := hrun
  unfold Oper.wp execOp
  simp only [ho, resolve, invoke, builtin, Sem.run_bind, Sem.run_pure, Result.andThen_ok, List.map_toArray, List.map_cons, List.map_nil, hx, hr]
  exact hK _ _ (h w' h1 h2)

section
variable (conv soft seq size opn : Int) (A : Option Addr) (n cap : Nat) (ps : List Int) (h0 h1 h2 : Int)
set_option maxRecDepth 100000 in
set_option maxHeartbeats 4000000 in
theorem pwith_any (x : Int) (w : World) (hm : n ≤ 64) (hn : ps.length = n) (S : Some conv seq size) (hr : Rd w w.heap.size A (is ps)) :
    Calls Try.prog 37 #[pgv conv soft seq size opn, ppv A n cap h0 h1 h2, .int .i64 x] w fun e w' =>
      ∃ v, e = .returned v ∧ w'.ownsRow w.heap.size 3 1 v (zonesX conv ps x n).length (is (zonesX conv ps x n)) ∧ Below w.heap.size w w' := by
  have H0 := Lib.hid (GP.new w conv soft seq size opn A n cap h0 h1 h2 23 27)
  obtain ⟨q1, q2, q3, q4, q5⟩ := S
  have HN := Lib.hid hn
  have HR := Lib.hid hr
  clear hn hr
  go_enter Try.func37, Try.ntmps37
  go_wp2_with fail
  generalize World.alloc _ _ = w0 at H0 ⊢
  obtain ⟨a0, a1, a2, a3, al⟩ := id H0.out.2.1
  go_wp2
  clear a0 a1 a2 a3 al
  go_loopw [7, 13] (fun o i wr => ∃ k : Nat, k ≤ n ∧ i = .int .i64 k ∧ wr.ownsRow w0.heap.size 3 1 o (zonesX conv ps x k).length (is (zonesX conv ps x k)) ∧ Below w0.heap.size w0 wr) (fun _ i _ => n - (intOf i).toNat)
  case atStart => exact ⟨0, by omega, rfl, World.ownsRow_nil _ _ _ _, Below.refl _ _⟩
  case round =>
    obtain ⟨k, hk, rfl, hown, hbl⟩ := hrel
    have H1 := Lib.hid (GP.below H0.out hbl)
    by_cases hlt : k < n
    rotate_left
    · obtain rfl : n = k := by omega
      have HO := Lib.hid (own_base0 hown H0.out.2.2.size)
      clear hown hbl
      go_wp2
      go_ret
      exact ⟨_, rfl, HO.out, H1.out.2.2⟩
    obtain ⟨ad, rfl, _, pc⟩ := (Rd.gp HR.out H1.out).point (k := k) (by rw [HN.out]; exact hlt)
    obtain ⟨c0, c1, c2, c3, c4, cl⟩ := id H1.out.1
    by_cases hx : ps.getD k 0 = x
    · have HZ := Lib.hid (zones_yes (conv := conv) hx)
      have hq : (ps.getD k 0 == x) = true := by simpa using hx
      have hw := IntWalk.i64_in (conv + (k : Int)) (by omega)
      have hle := zones_le conv ps x k
      have hsz := hbl.size
      have HOn := Lib.hid hown
      have HBl := Lib.hid hbl
      clear hx
      generalize ps.getD k 0 = y at pc hq
      generalize (zonesX conv ps x k).length = m at HZ hle hown HOn
      go_wp2_with (at_builtin; go_loud (refine wpList_append_one _ rfl _ _ _ rfl w0.heap.size 3 _ 8 pelemI u7 m _ rfl _ rfl hown rfl (by simp only [maxLen]; omega) (by omega) hsz ?_); intro v1 w1 hown1 hg1; have HO := Lib.hid (And.intro hown1 (HBl.out.grown hg1 hsz fun g hg => (HOn.out.lt g hg).1)); clear hown1 hg1)
      go_roundw
      case rel =>
        refine ⟨k + 1, by omega, by go_num, ?_, HO.out.2⟩
        rw [HZ.out.1, HZ.out.2, pis_append, pis_one1]
        exact HO.out.1
      case measure => first | (simp [intOf]; done) | (simp [intOf]; omega)
    · have HZ := Lib.hid (zones_no (conv := conv) hx)
      have hq : (ps.getD k 0 == x) = false := by simpa using hx
      have HO := Lib.hid (And.intro hown hbl)
      clear hx hown hbl
      generalize ps.getD k 0 = y at pc hq
      go_wp2
      go_roundw
      case rel => exact ⟨k + 1, by omega, by go_num, by rw [HZ.out]; exact HO.out.1, HO.out.2⟩
      case measure => first | (simp [intOf]; done) | (simp [intOf]; omega)

end
section
variable (F : FuncId) (cap2 : Array Value) (pd : Int → Bool)
set_option maxRecDepth 100000 in
set_option maxHeartbeats 4000000 in
/-- slices.IndexFunc: -1 where none is met, else the first place -/
theorem sindexf_any (A : Option Addr) (n cap : Nat) (xs : List Int) (w : World) (hm : n ≤ maxLen) (hn : xs.length = n) (hr : Rd w w.heap.size A (is xs))
    (hE : ∀ (args : Array Value) (w' : World), (callFunc F args).run Try.prog w' = .ok (.enter F args) w')
    (hF : ∀ (z : Int) (w' : World), Below w.heap.size w w' → Calls Try.prog F (#[.int .i64 z] ++ cap2) w' fun e w'' => e = .returned (.bool (pd z)) ∧ Below w'.heap.size w' w'') :
    Calls Try.prog 49 #[.slice A n cap, .func (.func F) #[] cap2] w fun e w' =>
      ∃ r : Int, e = .returned (.int .i64 r) ∧ ((r = -1 ∧ ∀ x ∈ xs, pd x = false) ∨ (∃ k : Nat, r = k ∧ k < n ∧ (∀ x ∈ xs.take k, pd x = false) ∧ pd (xs.getD k 0) = true)) ∧ Below w.heap.size w w' := by
  unfold maxLen at hm
  have HN := Lib.hid hn
  have HR := Lib.hid hr
  have HF := Lib.hid hF
  clear hn hr hF
  go_enter Try.func49, Try.ntmps49
  go_wp2
  go_loopw [8] (fun i wr => ∃ k : Nat, k ≤ n ∧ i = .int .i64 k ∧ (∀ x ∈ xs.take k, pd x = false) ∧ Below w.heap.size w wr) (fun i _ => n - (intOf i).toNat)
  case atStart => exact ⟨0, by omega, rfl, fun x hx => absurd hx (by simp), Below.refl _ _⟩
  case round =>
    obtain ⟨k, hk, rfl, hno, hbl⟩ := hrel
    have HNo := Lib.hid hno
    have HBl := Lib.hid hbl
    clear hno
    by_cases hlt : k < n
    rotate_left
    · obtain rfl : n = k := by omega
      clear hbl
      go_wp2
      go_ret
      exact ⟨-1, rfl, .inl ⟨rfl, by have := HNo.out; rwa [List.take_of_length_le (by rw [HN.out]; exact Nat.le_refl _)] at this⟩, HBl.out⟩
    obtain ⟨ad, rfl, _, pc⟩ := (HR.out.below hbl).point (k := k) (by rw [HN.out]; exact hlt)
    have HX := Lib.hid (show xs.take (k + 1) = xs.take k ++ [xs.getD k 0] by rw [List.take_succ_eq_append_getElem (by rw [HN.out]; omega)]; simp [HN.out, hlt])
    clear hbl
    generalize hx : xs.getD k 0 = x at pc HX
    have HXe := Lib.hid hx
    clear hx
    go_wp2_with fail
    refine (HF.out x _ HBl.out).mono ?_
    rintro e w2 ⟨rfl, hb⟩
    have HB2 := Lib.hid (bthen HBl.out hb)
    clear hb
    cases hp : pd x
    · have HP := Lib.hid hp
      clear hp
      go_wp2
      go_roundw
      case rel =>
        refine ⟨k + 1, by omega, by go_num, fun y hy => ?_, HB2.out⟩
        rw [HX.out] at hy
        rcases List.mem_append.1 hy with hy | hy
        · exact HNo.out y hy
        · obtain rfl : y = x := by simpa using hy
          exact HP.out
      case measure => first | (simp [intOf]; done) | (simp [intOf]; omega)
    · have HP := Lib.hid hp
      clear hp
      go_wp2
      go_ret
      exact ⟨k, rfl, .inr ⟨k, rfl, hlt, HNo.out, by rw [HXe.out]; exact HP.out⟩, HB2.out⟩

theorem kept_snoc {xs : List Int} {k : Nat} (h : k < xs.length) : (xs.take (k + 1)).filter (fun z => !pd z) = (xs.take k).filter (fun z => !pd z) ++ (if pd (xs.getD k 0) = true then [] else [xs.getD k 0]) := by
  rw [List.take_succ_eq_append_getElem h, List.filter_append]
  congr 1
  rw [show xs.getD k 0 = xs[k] by simp [h]]
  cases hp : pd xs[k] <;> simp [hp]
theorem kept_all {xs : List Int} (h : ∀ x ∈ xs, pd x = false) : xs.filter (fun z => !pd z) = xs := by
  rw [List.filter_eq_self]
  intro x hx
  rw [h x hx]
  rfl
set_option maxRecDepth 100000 in
set_option maxHeartbeats 4000000 in
theorem sdelete_any (v : Value) (n base : Nat) (xs : List Int) (w : World) (hm : n ≤ 64) (hn : xs.length = n) (hbase : base ≤ w.heap.size) (hown : w.ownsRow base 3 1 v n (is xs))
    (hE : ∀ (args : Array Value) (w' : World), (callFunc F args).run Try.prog w' = .ok (.enter F args) w')
    (hF : ∀ (z : Int) (w' : World), Below base w w' → Calls Try.prog F (#[.int .i64 z] ++ cap2) w' fun e w'' => e = .returned (.bool (pd z)) ∧ Below w'.heap.size w' w'') :
    Calls Try.prog 36 #[v, .func (.func F) #[] cap2] w fun e w' =>
      ∃ v', e = .returned v' ∧ w'.ownsRow base 3 1 v' (xs.filter (fun z => !pd z)).length (is (xs.filter (fun z => !pd z))) ∧ Below base w w' := by
  obtain ⟨A, c, rfl⟩ := own_slice hown
  have HI := Lib.hid (sindexf_any F cap2 pd A n c xs w (by simp only [maxLen]; omega) hn (Rd.own hown) hE fun z w' h => hF z w' (h.mono hbase))
  have HF := Lib.hid hF
  have HN := Lib.hid hn
  have HO := Lib.hid hown
  have HB := Lib.hid hbase
  clear hown hn hF hbase
  go_enter Try.func36, Try.ntmps36
  go_wp2_with fail
  refine HI.out.mono ?_
  rintro e w1 ⟨r, rfl, (⟨rfl, hno⟩ | ⟨k0, rfl, hk0, hno, hyes⟩), hb⟩
  · have HK := Lib.hid (kept_all pd hno)
    have HO1 := Lib.hid (own_below HO.out hb)
    have HB1 := Lib.hid (hb.mono HB.out)
    clear hno hb
    go_wp2
    go_ret
    exact ⟨_, rfl, by rw [HK.out, HN.out]; exact HO1.out, HB1.out⟩
  obtain ⟨g, rfl, hg1, hg2⟩ := own_at HO.out (by omega)
  have HK0 := Lib.hid (show ((xs.take (k0 + 1)).filter fun z => !pd z) = xs.take k0 by
    rw [kept_snoc pd (by rw [HN.out]; exact hk0), if_pos hyes, List.append_nil, kept_all pd hno])
  have HO1 := Lib.hid (own_below HO.out hb)
  have HB1 := Lib.hid (hb.mono HB.out)
  have hq : ((k0 : Int) == -1) = false := by rw [beq_eq_false_iff_ne]; omega
  have HG := Lib.hid hg1
  clear hno hb hyes HI HO
  go_wp2
  go_loopw [5, 6] (fun i j wr => ∃ (k m : Nat) (ys : List Int), k ≤ n ∧ m < k ∧ j = .int .i64 k ∧ i = .int .i64 m ∧ wr.ownsRow base 3 1 (.slice (some ⟨g, 0, none⟩) n c) n (is ys) ∧ ys.length = n ∧ ys.drop k = xs.drop k ∧ ys.take m = ((xs.take k).filter fun z => !pd z) ∧ ((xs.take k).filter fun z => !pd z).length = m ∧ Below base w wr) (fun _ j _ => n - (intOf j).toNat)
  case atStart => exact ⟨k0 + 1, k0, xs, by omega, by omega, by go_num, rfl, HO1.out, HN.out, rfl, HK0.out.symm, by rw [HK0.out]; simp [HN.out]; omega, HB1.out⟩
  case round =>
    obtain ⟨k, m, ys, hk, hmk, rfl, rfl, hown, hyl, hyd, hyt, hlen, hbl⟩ := hrel
    have HYL := Lib.hid hyl
    have HYD := Lib.hid hyd
    have HYT := Lib.hid hyt
    have HLen := Lib.hid hlen
    have HBl := Lib.hid hbl
    have HO2 := Lib.hid hown
    clear hyl hyd hyt hlen hbl HO1 HB1 HK0
    by_cases hlt : k < n
    rotate_left
    · obtain rfl : n = k := by omega
      have HK := Lib.hid (show xs.filter (fun z => !pd z) = ys.take m by
        have := HYT.out
        rw [List.take_of_length_le (l := xs) (by rw [HN.out]; exact Nat.le_refl _)] at this
        exact this.symm)
      have HKl := Lib.hid (show (ys.take m).length = m by rw [List.length_take, HYL.out]; omega)
      have hmI : (m : Int) ≤ (n : Int) := by omega
      have hmC : (m : Int) ≤ (c : Int) := by have := (own_cap hown).1; omega
      have hcm : ¬ c = m := by have := (own_cap hown).1; omega
      have hmn : m + (n - m) = n := by omega
      clear hown
      go_wp2_with ((with_reducible refine wpList_clear_tail _ (o := ⟨none, .call _, _, _, _, _⟩) rfl _ 24 3 rfl Try.underlying24 (.int .i64 0) pzero_int rfl rfl base g n c m (n - m) (c - m) (is ys) rfl hmn HO2.out ?_); intro w4 hown4 hg4; have HO4 := Lib.hid (And.intro hown4 (HBl.out.grown hg4 (Nat.le_trans HB.out HBl.out.size) fun k hk => by injection hk with hk; rw [← hk]; exact HG.out)); clear hown4 hg4)
      go_ret
      refine ⟨_, rfl, ?_, HO4.out.2⟩
      rw [HK.out, HKl.out]
      have := HO4.out.1
      rwa [show (is ys).take m = is (ys.take m) by simp [is]] at this
    obtain ⟨pc, pf⟩ : wr.cell? ⟨g, k, none⟩ = some (.int .i64 (ys.getD k 0)) ∧ wr.frozen? ⟨g, k, none⟩ = false := ⟨by rw [hown.cellAt k (by omega)]; exact is_get (by rw [HYL.out]; exact hlt), hown.frozenAt k⟩
    have hxy : ys.getD k 0 = xs.getD k 0 := by
      have := congrArg (fun l => l.getD 0 0) HYD.out
      simpa [List.getD_eq_getElem?_getD, List.getElem?_drop] using this
    rw [hxy] at pc
    have HS := Lib.hid (kept_snoc pd (xs := xs) (k := k) (by rw [HN.out]; exact hlt))
    clear hown hxy pf
    generalize xs.getD k 0 = x at pc HS
    go_wp2_with fail
    refine (HF.out x _ HBl.out).mono ?_
    rintro e w2 ⟨rfl, hb⟩
    have HO3 := Lib.hid (own_below HO2.out hb)
    have HB3 := Lib.hid (HBl.out.trans (hb.mono (Nat.le_trans HB.out HBl.out.size)))
    clear hb pc HO2 HBl
    have hyd1 : ys.drop (k + 1) = xs.drop (k + 1) := by
      have := congrArg (List.drop 1) HYD.out
      rwa [List.drop_drop, List.drop_drop] at this
    have HYD1 := Lib.hid hyd1
    clear hyd1
    cases hp : pd x
    · rw [hp] at HS
      have HS1 := Lib.hid (HS.out.trans (show _ = ((xs.take k).filter fun z => !pd z) ++ [x] by simp))
      obtain ⟨pm, pf⟩ : w2.cell? ⟨g, m, none⟩ = some (.int .i64 (ys.getD m 0)) ∧ w2.frozen? ⟨g, m, none⟩ = false := ⟨by rw [HO3.out.cellAt m (by omega)]; exact is_get (by rw [HYL.out]; omega), HO3.out.frozenAt m⟩
      obtain ⟨hst, hgr⟩ := HO3.out.stored m (.int .i64 x)
      rw [← is_set] at hst
      have HST := Lib.hid hst
      have HB4 := Lib.hid (HB3.out.grown hgr (Nat.le_trans HB.out HB3.out.size) fun k hk => by injection hk with hk; rw [← hk]; exact HG.out)
      have HSet := Lib.hid (show (ys.set m x).take (m + 1) = ys.take m ++ [x] by
        rw [List.take_succ_eq_append_getElem (by rw [List.length_set, HYL.out]; omega)]
        congr 1
        · rw [List.take_set_of_le (Nat.le_refl _)]
        · simp)
      clear hst hgr hp HS
      have hmI : (m : Int) < (n : Int) := by omega
      go_wp2
      go_roundw
      case rel =>
        refine ⟨k + 1, m + 1, ys.set m x, by omega, by omega, by go_num, by go_num, HST.out, by rw [List.length_set]; exact HYL.out, ?_, ?_, ?_, HB4.out⟩
        · rw [List.drop_set_of_lt (by omega)]; exact HYD1.out
        · rw [HSet.out, HYT.out, HS1.out]
        · rw [HS1.out, List.length_append, HLen.out]; rfl
      case measure => first | (simp [intOf]; done) | (simp [intOf]; omega)
    · rw [hp] at HS
      have HS1 := Lib.hid (HS.out.trans (show _ = ((xs.take k).filter fun z => !pd z) by simp))
      clear hp HS
      go_wp2
      go_roundw
      case rel =>
        refine ⟨k + 1, m, ys, by omega, by omega, by go_num, rfl, HO3.out, HYL.out, HYD1.out, ?_, ?_, HB3.out⟩
        · rw [HYT.out, HS1.out]
        · rw [HS1.out, HLen.out]
      case measure => first | (simp [intOf]; done) | (simp [intOf]; omega)
end
end Go.Proofs.Ytbhcemipjfdemaa

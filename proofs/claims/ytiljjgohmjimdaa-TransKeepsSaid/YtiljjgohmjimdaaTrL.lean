/-
  slices.Delete of one transaction; Package trans: Drop.
-/
import Derived.Test.YtiljjgohmjimdaaTrK
namespace Go.Proofs.Ytiljjgohmjimdaa
open Go.RowKit Word Tran
set_option linter.unusedVariables false

theorem own_head {w : World} {base g n c i s : Nat} {e : TypeId} {xs : List Value} (h : w.ownsRow base e s (.slice (some ⟨g, 0, none⟩) n c) n xs) (hi : i ≤ n) : w.ownsRow base e s (.slice (some ⟨g, 0, none⟩) i c) i (xs.take (i * s)) := by
  obtain ⟨hl, h2⟩ := h
  have hmul := Nat.mul_le_mul_right s hi
  rcases h2 with ⟨hv, _⟩ | ⟨g', cap, cur, hv, hgb, hheap, hnc, hcm, hcs, htk⟩
  · cases hv
  injection hv with a b c'
  subst c'
  injection a with a
  injection a with a
  subst a
  refine ⟨by rw [List.length_take, hl]; omega, .inr ⟨g, c, cur, rfl, hgb, hheap, by omega, hcm, hcs, ?_⟩⟩
  rw [← htk, List.take_take, Nat.min_eq_left (by omega)]
theorem town_cap {w : World} {base g n c s : Nat} {e : TypeId} {xs : List Value} (h : w.ownsRow base e s (.slice (some ⟨g, 0, none⟩) n c) n xs) : n ≤ c := by
  rcases h.2 with ⟨hv, _⟩ | ⟨g', cap, cur, hv, hgb, hheap, hnc, _⟩
  · cases hv
  · injection hv with a b c'
    subst c'
    exact hnc
theorem step_append_fits {P : Program} {w : World} {ops : Array Oper} {o : Oper} {a : Act} {K : Act → World → Prop} {Q : Exit → Act → World → Prop} {E : Prop} (hgd : o.guard = none) (s x : Operand) (t : TypeId)
    (ho : o.op = .call { callee := .builtin .append, args := #[s, x], argTypes := #[t, t] }) (base : Nat) (e : TypeId) (z : Value) (size bytes : Nat) (he : Elem P t e z size bytes)
    (g n cap : Nat) (xs : List Value) (hs : a.eval s = .slice (some ⟨g, 0, none⟩) n cap) (hown : w.ownsRow base e size (.slice (some ⟨g, 0, none⟩) n cap) n xs)
    (ad : Addr) (m c : Nat) (news : List Value) (hx : a.eval x = .slice (some ad) m c) (hl : news.length = m * size) (hnews : ∀ j u, news[j]? = some u → w.cell? (ad.add j) = some u) (h1 : ∀ u ∈ news, u.oneCell' = true) (hroom : n + m ≤ cap)
    (h : ∀ w', w'.ownsRow base e size (.slice (some ⟨g, 0, none⟩) (n + m) cap) (n + m) (xs ++ news) → w.grownBy w' (some g) → K (a.put o.dst (.slice (some ⟨g, 0, none⟩) (n + m) cap)) w') :
    if Region.wanted o (yielded ops a.tmps) = true then Oper.wp P o a w K Q else E := by
  have hw : Region.wanted o (yielded ops a.tmps) = true := by simp [Region.wanted, hgd]
  rw [if_pos hw]
  obtain ⟨ht, i, hi, hz, hsize, hby, hzs, hsz⟩ := he
  obtain ⟨w', hrun, h2, h3⟩ := run_append_fits (P := P) w base t o.type e i size ht hi hsize g n cap xs hown ad m c news hl hnews h1 hroom
  unfold Oper.wp execOp
  simp only [ho, resolve, invoke, builtin, Sem.run_bind, Sem.run_pure, Result.andThen_ok, List.map_toArray, List.map_cons, List.map_nil, hs, hx, hrun]
  exact h w' h2 h3
/-- 'clear' of one element behind a row of the call's own, within its room -/
theorem wpList_clear_spare {P : Program} {w : World} {ops : Array Oper} {rest : List Oper} {o : Oper} {a : Act} {Q : Exit → Act → World → Prop} (hgd : o.guard = none) (x : Operand) (t e : TypeId) (ho : o.op = .call { callee := .builtin .clear, args := #[x], argTypes := #[t] })
    (ht : P.underlying t = some (.slice e)) (z : Value) (hz : ∀ w, (zeroValue e).run P w = .ok z w) (size : Nat) (hzs : z.cells.size = size) (hs0 : 0 < size) (hz1 : ∀ u ∈ z.cells.toList, u.oneCell' = true) (base g k off cap cx : Nat) (xs : List Value) (hoff : off = k * size) (m1 : Nat) (hm1 : m1 = 1) (hx : a.eval x = .slice (some ⟨g, off, none⟩) m1 cx)
    (hk : k + 1 ≤ cap) (hown : w.ownsRow base e size (.slice (some ⟨g, 0, none⟩) k cap) k xs)
    (h : ∀ w', w'.ownsRow base e size (.slice (some ⟨g, 0, none⟩) k cap) k xs → w.grownBy w' (some g) → wpList P ops Q rest (a.put o.dst (.tuple #[])) w') : wpList P ops Q (o :: rest) a w := by
  subst hm1
  refine wpList_plain hgd fun K hK => ?_
  have hrun : ∃ w', (Builtin.clear_ #[t] o.type #[.slice (some ⟨g, off, none⟩) 1 cx]).run P w = .ok (.tuple #[]) w' ∧ w'.ownsRow base e size (.slice (some ⟨g, 0, none⟩) k cap) k xs ∧ w.grownBy w' (some g) := by
    obtain ⟨hl, h2⟩ := hown
    rcases h2 with ⟨hv, _⟩ | ⟨g', cap', cur, hv, hgb, hheap, hnc, hcm, hcs, htk⟩
    · cases hv
    injection hv with a b c'
    subst c'
    injection a with a
    injection a with a
    subst a
    have hzl : (Builtin.zeroCells z.cells 1).toList.length = size := by simp [Builtin.zeroCells, hzs]
    have hz2 : ∀ u ∈ (Builtin.zeroCells z.cells 1).toList, u.oneCell' = true := by
      intro u hu
      simp only [Builtin.zeroCells, Array.toList_map, List.mem_map] at hu
      obtain ⟨i, _, rfl⟩ := hu
      have hi : i % z.cells.size < z.cells.size := Nat.mod_lt _ (by omega)
      rw [getElem!_pos z.cells _ hi]
      exact hz1 _ (by simp)
    have hmul := Nat.mul_le_mul_right size hk
    rw [Nat.add_mul, Nat.one_mul] at hmul
    have hbx : Box w g e cur.toList := by show _ = _; simpa using hheap
    have hst := mid_heap (P := P) w hbx hz2 (off := off) (by rw [hzl]; simp; omega)
    obtain ⟨b1, b2, _⟩ := mid_setRow w (cs' := lay cur.toList off (Builtin.zeroCells z.cells 1).toList) hbx
    refine ⟨_, by simp [Builtin.clear_, run_underlying ht, hz, hst], ⟨hl, .inr ⟨g, cap, (lay cur.toList off (Builtin.zeroCells z.cells 1).toList).toArray, rfl, hgb, b1, hnc, hcm, ?_, ?_⟩⟩, b2⟩
    · rw [List.size_toArray, lay_length (by rw [hzl]; simp; omega)]; simpa using hcs
    · have e2 : (lay cur.toList off (Builtin.zeroCells z.cells 1).toList).toArray.toList = lay cur.toList off (Builtin.zeroCells z.cells 1).toList := by simp
      rw [e2, ← htk]
      apply List.ext_getElem?
      intro j
      rw [List.getElem?_take, List.getElem?_take]
      by_cases hj : j < k * size
      · rw [if_pos hj, if_pos hj, lay_low (by rw [hzl]; simp; omega) (by omega)]
      · rw [if_neg hj, if_neg hj]
  obtain ⟨w', hr, h1, h2⟩ := hrun
  unfold Oper.wp execOp
  simp only [ho, resolve, invoke, builtin, Sem.run_bind, Sem.run_pure, Result.andThen_ok, List.map_toArray, List.map_cons, List.map_nil, hx, hr]
  exact hK _ _ (h w' h1 h2)
theorem tz_cells : ∀ u ∈ (Value.agg (tnc tz).toArray).cells.toList, u.oneCell' = true := by
  intro u hu
  exact tnc_one tz u (by simpa [Value.cells] using hu)
/-! slices.Delete of one -/
set_option maxRecDepth 100000 in
set_option maxHeartbeats 4000000 in
theorem sdel_any (g n c i base : Nat) (L : List Tv) (w : World) (hown : w.ownsRow base 27 3 (.slice (some ⟨g, 0, none⟩) n c) n (tns L)) (hn : L.length = n) (hi : i < n) (hm : n ≤ 10000) :
    Calls Try.prog 25 #[.slice (some ⟨g, 0, none⟩) n c, .int .i64 i, .int .i64 ((i : Int) + 1)] w fun e w' =>
      e = .returned (.slice (some ⟨g, 0, none⟩) (n - 1) c) ∧ w'.ownsRow base 27 3 (.slice (some ⟨g, 0, none⟩) (n - 1) c) (n - 1) (tns (L.take i ++ L.drop (i + 1))) ∧ w.grownBy w' (some g) := by
  have hcap := town_cap hown
  have HRd := Lib.hid (Rd.own hown)
  have HH := Lib.hid (own_head hown (show i ≤ n by omega))
  rw [← tns_take] at HH
  obtain ⟨r, hr⟩ : ∃ r, n = r + 1 := ⟨n - 1, by omega⟩
  have hne : ((i : Int) == (i : Int) + 1) = false := by simp; omega
  have hi1 : (0 : Int) ≤ (i : Int) + 1 := by omega
  clear hown
  by_cases hlt : i + 1 < n
  · skip
    have hlast : ¬ c = i + 1 := by omega
    have hii : (i : Int) + 1 ≤ (n : Int) := by omega
    have hii2 : (n : Int) ≤ (c : Int) := by omega
    have hii3 : (i : Int) ≤ (c : Int) := by omega
    have HT : Hid ((tns (L.drop (i + 1))).length = (n - (i + 1)) * 3 ∧ ∀ j u, (tns (L.drop (i + 1)))[j]? = some u → w.drew.cell? ((⟨g, (i + 1) * 3, none⟩ : Addr).add j) = some u) := Lib.hid ⟨by rw [tns_length, List.length_drop, hn], fun j u hj => by
      rw [tns_drop] at hj
      obtain ⟨ad2, e2, _, h2⟩ := (HRd.out.tail (m := (i + 1) * 3)).at hj
      have e3 : (⟨g, 0, none⟩ : Addr).add ((i + 1) * 3) = ⟨g, (i + 1) * 3, none⟩ := by rw [Addr.add_lit, Nat.zero_add]
      rw [e3] at e2
      injection e2 with e2
      rw [e2]
      exact h2⟩
    have HT2 : Hid (i + (n - (i + 1)) ≤ c) := Lib.hid (by omega)
    have HR := Lib.hid hr
    have HNn := Lib.hid hn
    clear hn hr
    go_enter Try.func25, Try.ntmps25
    go_wp2_with fail
    refine wp_region_heldT (fun _ => True) 7 (by kernel_rfl) (by kernel_rfl) ?_
    refine heldT_take (i := 0) (oi := ⟨some 20, .move _, _, _, _, _⟩) (v := ?vb0) rfl (by kernel_rfl) (by decide) (by kernel_rfl) (by kernel_rfl) (fun _ _ _ h => h) (Or.inl ⟨by rfl, ?hyb0⟩) True.intro ?restb0
    case hyb0 =>
      intro w hSw
      go_simp
      try with_reducible rfl
    try simp only [Act.put, List.setIfInBounds_toArray, List.set_cons_zero, List.set_cons_succ]
    refine heldT_take (i := 1) (oi := ⟨some 21, .move _, _, _, _, _⟩) (v := ?vb1) rfl (by kernel_rfl) (by decide) (by kernel_rfl) (by kernel_rfl) (fun _ _ _ h => h) (Or.inl ⟨by rfl, ?hyb1⟩) True.intro ?restb1
    case hyb1 =>
      intro w hSw
      go_simp
      try with_reducible rfl
    try simp only [Act.put, List.setIfInBounds_toArray, List.set_cons_zero, List.set_cons_succ]
    refine heldT_take (i := 2) (oi := ⟨some 22, .slice _ _ _ _ _, _, _, _, _⟩) (v := ?vb2) rfl (by kernel_rfl) (by decide) (by kernel_rfl) (by kernel_rfl) (fun _ _ _ h => h) (Or.inl ⟨by rfl, ?hyb2⟩) True.intro ?restb2
    case hyb2 =>
      intro w hSw
      go_simp
      try with_reducible rfl
    try simp only [Act.put, List.setIfInBounds_toArray, List.set_cons_zero, List.set_cons_succ]
    refine heldT_take (i := 3) (oi := ⟨some 23, .move _, _, _, _, _⟩) (v := ?vb3) rfl (by kernel_rfl) (by decide) (by kernel_rfl) (by kernel_rfl) (fun _ _ _ h => h) (Or.inl ⟨by rfl, ?hyb3⟩) True.intro ?restb3
    case hyb3 =>
      intro w hSw
      go_simp
      try with_reducible rfl
    try simp only [Act.put, List.setIfInBounds_toArray, List.set_cons_zero, List.set_cons_succ]
    refine heldT_take (i := 4) (oi := ⟨some 24, .move _, _, _, _, _⟩) (v := ?vb4) rfl (by kernel_rfl) (by decide) (by kernel_rfl) (by kernel_rfl) (fun _ _ _ h => h) (Or.inl ⟨by rfl, ?hyb4⟩) True.intro ?restb4
    case hyb4 =>
      intro w hSw
      go_simp
      try with_reducible rfl
    try simp only [Act.put, List.setIfInBounds_toArray, List.set_cons_zero, List.set_cons_succ]
    refine heldT_take (i := 5) (oi := ⟨some 25, .slice _ _ _ _ _, _, _, _, _⟩) (v := ?vb5) rfl (by kernel_rfl) (by decide) (by kernel_rfl) (by kernel_rfl) (fun _ _ _ h => h) (Or.inl ⟨by rfl, ?hyb5⟩) True.intro ?restb5
    case hyb5 =>
      intro w hSw
      go_simp
      try with_reducible rfl
    try simp only [Act.put, List.setIfInBounds_toArray, List.set_cons_zero, List.set_cons_succ]
    refine heldT_one (i := 6) (o := ⟨some 26, .call _, _, _, _, _⟩) rfl (by kernel_rfl) (by decide) (fun K hK => ?_)
    refine step_append_fits rfl _ _ 22 rfl base 27 _ 3 40 elemT g i c (tns (L.take i)) rfl HH.out ⟨g, (i + 1) * 3, none⟩ (n - (i + 1)) (c - (i + 1)) (tns (L.drop (i + 1))) rfl HT.out.1 HT.out.2 (tns_one _) HT2.out ?_
    intro w5 hown5 hg5
    have H5 := Lib.hid (And.intro hown5 hg5)
    clear hown5 hg5
    refine hK.out _ _ True.intro ?_
    clear hK K
    try simp only [Act.put, List.setIfInBounds_toArray, List.set_cons_zero, List.set_cons_succ]
    refine heldT_done (by kernel_rfl) ?_
    have hr := HR.out
    have HO5 : Hid (w5.ownsRow base 27 3 (.slice (some ⟨g, 0, none⟩) r c) r (tns (L.take i) ++ tns (L.drop (i + 1)))) := Lib.hid (by have h := H5.out.1; rw [show i + (n - (i + 1)) = r by omega] at h; exact h)
    rw [show i + (n - (i + 1)) = r by omega]
    have hq1 : (r : Int) ≤ (n : Int) := by omega
    have hq2 : (n : Int) ≤ (c : Int) := by omega
    have hq3 : ¬ c = r := by omega
    have hq4 : Hid (n - r = 1) := Lib.hid (by omega)
    have hq5 : Hid (r + 1 ≤ c) := Lib.hid (by omega)
    clear hr
    go_wp2_with (first
      | ((with_reducible refine wpList_clear_spare (o := ⟨none, .call _, _, _, _, _⟩) rfl _ 22 27 rfl Try.underlying22 (.agg (tnc tz).toArray) zero_tn 3 rfl (by decide) tz_cells base g r (r * 3) c _ _ rfl _ hq4.out rfl hq5.out HO5.out ?_); go_loud (intro w7 hown7 hg7))
      | fail)
    go_ret
    refine ⟨?_, ?_, ?_⟩
    · rw [show n - 1 = r by have := HR.out; omega]; rfl
    · rw [show n - 1 = r by have := HR.out; omega, tns_append]; exact hown7
    · have h := H5.out.2.trans hg7
      exact ⟨h.os, h.tape, h.output, h.size, h.block⟩
  · have hn1 : n = i + 1 := by omega
    clear hr
    subst hn1
    by_cases hce : c = i + 1
    · subst hce
      have hii3 : (i : Int) ≤ ((i + 1) : Int) := by omega
      have HT : Hid ((tns (L.drop (i + 1))).length = 0 * 3 ∧ ∀ j u, (tns (L.drop (i + 1)))[j]? = some u → w.drew.cell? ((⟨g, 0, none⟩ : Addr).add j) = some u) := Lib.hid ⟨by rw [tns_length, List.length_drop, hn]; omega, fun j u hj => by
        rw [List.drop_of_length_le (by omega)] at hj
        simp [tns] at hj⟩
      have HT2 : Hid (i + 0 ≤ (i + 1)) := Lib.hid (by omega)
      have HR := Lib.hid True.intro
      have HNn := Lib.hid hn
      clear hn
      go_enter Try.func25, Try.ntmps25
      go_wp2_with fail
      refine wp_region_heldT (fun _ => True) 7 (by kernel_rfl) (by kernel_rfl) ?_
      refine heldT_take (i := 0) (oi := ⟨some 20, .move _, _, _, _, _⟩) (v := ?vc0) rfl (by kernel_rfl) (by decide) (by kernel_rfl) (by kernel_rfl) (fun _ _ _ h => h) (Or.inl ⟨by rfl, ?hyc0⟩) True.intro ?restc0
      case hyc0 =>
        intro w hSw
        go_simp
        try with_reducible rfl
      try simp only [Act.put, List.setIfInBounds_toArray, List.set_cons_zero, List.set_cons_succ]
      refine heldT_take (i := 1) (oi := ⟨some 21, .move _, _, _, _, _⟩) (v := ?vc1) rfl (by kernel_rfl) (by decide) (by kernel_rfl) (by kernel_rfl) (fun _ _ _ h => h) (Or.inl ⟨by rfl, ?hyc1⟩) True.intro ?restc1
      case hyc1 =>
        intro w hSw
        go_simp
        try with_reducible rfl
      try simp only [Act.put, List.setIfInBounds_toArray, List.set_cons_zero, List.set_cons_succ]
      refine heldT_take (i := 2) (oi := ⟨some 22, .slice _ _ _ _ _, _, _, _, _⟩) (v := ?vc2) rfl (by kernel_rfl) (by decide) (by kernel_rfl) (by kernel_rfl) (fun _ _ _ h => h) (Or.inl ⟨by rfl, ?hyc2⟩) True.intro ?restc2
      case hyc2 =>
        intro w hSw
        go_simp
        try with_reducible rfl
      try simp only [Act.put, List.setIfInBounds_toArray, List.set_cons_zero, List.set_cons_succ]
      refine heldT_take (i := 3) (oi := ⟨some 23, .move _, _, _, _, _⟩) (v := ?vc3) rfl (by kernel_rfl) (by decide) (by kernel_rfl) (by kernel_rfl) (fun _ _ _ h => h) (Or.inl ⟨by rfl, ?hyc3⟩) True.intro ?restc3
      case hyc3 =>
        intro w hSw
        go_simp
        try with_reducible rfl
      try simp only [Act.put, List.setIfInBounds_toArray, List.set_cons_zero, List.set_cons_succ]
      refine heldT_take (i := 4) (oi := ⟨some 24, .move _, _, _, _, _⟩) (v := ?vc4) rfl (by kernel_rfl) (by decide) (by kernel_rfl) (by kernel_rfl) (fun _ _ _ h => h) (Or.inl ⟨by rfl, ?hyc4⟩) True.intro ?restc4
      case hyc4 =>
        intro w hSw
        go_simp
        try with_reducible rfl
      try simp only [Act.put, List.setIfInBounds_toArray, List.set_cons_zero, List.set_cons_succ]
      refine heldT_take (i := 5) (oi := ⟨some 25, .slice _ _ _ _ _, _, _, _, _⟩) (v := ?vc5) rfl (by kernel_rfl) (by decide) (by kernel_rfl) (by kernel_rfl) (fun _ _ _ h => h) (Or.inl ⟨by rfl, ?hyc5⟩) True.intro ?restc5
      case hyc5 =>
        intro w hSw
        go_simp
        try with_reducible rfl
      try simp only [Act.put, List.setIfInBounds_toArray, List.set_cons_zero, List.set_cons_succ]
      refine heldT_one (i := 6) (o := ⟨some 26, .call _, _, _, _, _⟩) rfl (by kernel_rfl) (by decide) (fun K hK => ?_)
      refine step_append_fits rfl _ _ 22 rfl base 27 _ 3 40 elemT g i (i + 1) (tns (L.take i)) rfl HH.out ⟨g, 0, none⟩ 0 0 (tns (L.drop (i + 1))) rfl HT.out.1 HT.out.2 (tns_one _) HT2.out ?_
      intro w5 hown5 hg5
      have H5 := Lib.hid (And.intro hown5 hg5)
      clear hown5 hg5
      refine hK.out _ _ True.intro ?_
      clear hK K
      try simp only [Act.put, List.setIfInBounds_toArray, List.set_cons_zero, List.set_cons_succ]
      refine heldT_done (by kernel_rfl) ?_
      have hr := HR.out
      have HO5 : Hid (w5.ownsRow base 27 3 (.slice (some ⟨g, 0, none⟩) i (i + 1)) i (tns (L.take i) ++ tns (L.drop (i + 1)))) := Lib.hid (by have h := H5.out.1; rw [show i + 0 = i by omega] at h; exact h)
      rw [show i + 0 = i by omega]
      have hq1 : (i : Int) ≤ ((i + 1) : Int) := by omega
      have hq2 : ((i + 1) : Int) ≤ ((i + 1) : Int) := by omega
      have hq3 : ¬ (i + 1) = i := by omega
      have hq4 : Hid ((i + 1) - i = 1) := Lib.hid (by omega)
      have hq5 : Hid (i + 1 ≤ (i + 1)) := Lib.hid (by omega)
      clear hr
      go_wp2_with (first
        | ((with_reducible refine wpList_clear_spare (o := ⟨none, .call _, _, _, _, _⟩) rfl _ 22 27 rfl Try.underlying22 (.agg (tnc tz).toArray) zero_tn 3 rfl (by decide) tz_cells base g i (i * 3) (i + 1) _ _ rfl _ rfl rfl hq5.out HO5.out ?_); go_loud (intro w7 hown7 hg7))
        | fail)
      go_ret
      refine ⟨?_, ?_, ?_⟩
      · rw [show (i + 1) - 1 = i by have := HR.out; omega]; rfl
      · rw [show (i + 1) - 1 = i by have := HR.out; omega, tns_append]; exact hown7
      · have h := H5.out.2.trans hg7
        exact ⟨h.os, h.tape, h.output, h.size, h.block⟩
    · skip
      have hii3 : (i : Int) ≤ (c : Int) := by omega
      have HT : Hid ((tns (L.drop (i + 1))).length = 0 * 3 ∧ ∀ j u, (tns (L.drop (i + 1)))[j]? = some u → w.drew.cell? ((⟨g, (i + 1) * 3, none⟩ : Addr).add j) = some u) := Lib.hid ⟨by rw [tns_length, List.length_drop, hn]; omega, fun j u hj => by
        rw [List.drop_of_length_le (by omega)] at hj
        simp [tns] at hj⟩
      have HT2 : Hid (i + 0 ≤ c) := Lib.hid (by omega)
      have HR := Lib.hid True.intro
      have HNn := Lib.hid hn
      clear hn
      go_enter Try.func25, Try.ntmps25
      go_wp2_with fail
      refine wp_region_heldT (fun _ => True) 7 (by kernel_rfl) (by kernel_rfl) ?_
      refine heldT_take (i := 0) (oi := ⟨some 20, .move _, _, _, _, _⟩) (v := ?vd0) rfl (by kernel_rfl) (by decide) (by kernel_rfl) (by kernel_rfl) (fun _ _ _ h => h) (Or.inl ⟨by rfl, ?hyd0⟩) True.intro ?restd0
      case hyd0 =>
        intro w hSw
        go_simp
        try with_reducible rfl
      try simp only [Act.put, List.setIfInBounds_toArray, List.set_cons_zero, List.set_cons_succ]
      refine heldT_take (i := 1) (oi := ⟨some 21, .move _, _, _, _, _⟩) (v := ?vd1) rfl (by kernel_rfl) (by decide) (by kernel_rfl) (by kernel_rfl) (fun _ _ _ h => h) (Or.inl ⟨by rfl, ?hyd1⟩) True.intro ?restd1
      case hyd1 =>
        intro w hSw
        go_simp
        try with_reducible rfl
      try simp only [Act.put, List.setIfInBounds_toArray, List.set_cons_zero, List.set_cons_succ]
      refine heldT_take (i := 2) (oi := ⟨some 22, .slice _ _ _ _ _, _, _, _, _⟩) (v := ?vd2) rfl (by kernel_rfl) (by decide) (by kernel_rfl) (by kernel_rfl) (fun _ _ _ h => h) (Or.inl ⟨by rfl, ?hyd2⟩) True.intro ?restd2
      case hyd2 =>
        intro w hSw
        go_simp
        try with_reducible rfl
      try simp only [Act.put, List.setIfInBounds_toArray, List.set_cons_zero, List.set_cons_succ]
      refine heldT_take (i := 3) (oi := ⟨some 23, .move _, _, _, _, _⟩) (v := ?vd3) rfl (by kernel_rfl) (by decide) (by kernel_rfl) (by kernel_rfl) (fun _ _ _ h => h) (Or.inl ⟨by rfl, ?hyd3⟩) True.intro ?restd3
      case hyd3 =>
        intro w hSw
        go_simp
        try with_reducible rfl
      try simp only [Act.put, List.setIfInBounds_toArray, List.set_cons_zero, List.set_cons_succ]
      refine heldT_take (i := 4) (oi := ⟨some 24, .move _, _, _, _, _⟩) (v := ?vd4) rfl (by kernel_rfl) (by decide) (by kernel_rfl) (by kernel_rfl) (fun _ _ _ h => h) (Or.inl ⟨by rfl, ?hyd4⟩) True.intro ?restd4
      case hyd4 =>
        intro w hSw
        go_simp
        try with_reducible rfl
      try simp only [Act.put, List.setIfInBounds_toArray, List.set_cons_zero, List.set_cons_succ]
      refine heldT_take (i := 5) (oi := ⟨some 25, .slice _ _ _ _ _, _, _, _, _⟩) (v := ?vd5) rfl (by kernel_rfl) (by decide) (by kernel_rfl) (by kernel_rfl) (fun _ _ _ h => h) (Or.inl ⟨by rfl, ?hyd5⟩) True.intro ?restd5
      case hyd5 =>
        intro w hSw
        go_simp
        try with_reducible rfl
      try simp only [Act.put, List.setIfInBounds_toArray, List.set_cons_zero, List.set_cons_succ]
      refine heldT_one (i := 6) (o := ⟨some 26, .call _, _, _, _, _⟩) rfl (by kernel_rfl) (by decide) (fun K hK => ?_)
      refine step_append_fits rfl _ _ 22 rfl base 27 _ 3 40 elemT g i c (tns (L.take i)) rfl HH.out ⟨g, (i + 1) * 3, none⟩ 0 (c - (i + 1)) (tns (L.drop (i + 1))) rfl HT.out.1 HT.out.2 (tns_one _) HT2.out ?_
      intro w5 hown5 hg5
      have H5 := Lib.hid (And.intro hown5 hg5)
      clear hown5 hg5
      refine hK.out _ _ True.intro ?_
      clear hK K
      try simp only [Act.put, List.setIfInBounds_toArray, List.set_cons_zero, List.set_cons_succ]
      refine heldT_done (by kernel_rfl) ?_
      have hr := HR.out
      have HO5 : Hid (w5.ownsRow base 27 3 (.slice (some ⟨g, 0, none⟩) i c) i (tns (L.take i) ++ tns (L.drop (i + 1)))) := Lib.hid (by have h := H5.out.1; rw [show i + 0 = i by omega] at h; exact h)
      rw [show i + 0 = i by omega]
      have hq1 : (i : Int) ≤ ((i + 1) : Int) := by omega
      have hq2 : ((i + 1) : Int) ≤ (c : Int) := by omega
      have hq3 : ¬ c = i := by omega
      have hq4 : Hid ((i + 1) - i = 1) := Lib.hid (by omega)
      have hq5 : Hid (i + 1 ≤ c) := Lib.hid (by omega)
      clear hr
      go_wp2_with (first
        | ((with_reducible refine wpList_clear_spare (o := ⟨none, .call _, _, _, _, _⟩) rfl _ 22 27 rfl Try.underlying22 (.agg (tnc tz).toArray) zero_tn 3 rfl (by decide) tz_cells base g i (i * 3) c _ _ rfl _ rfl rfl hq5.out HO5.out ?_); go_loud (intro w7 hown7 hg7))
        | fail)
      go_ret
      refine ⟨?_, ?_, ?_⟩
      · rw [show (i + 1) - 1 = i by have := HR.out; omega]; rfl
      · rw [show (i + 1) - 1 = i by have := HR.out; omega, tns_append]; exact hown7
      · have h := H5.out.2.trans hg7
        exact ⟨h.os, h.tape, h.output, h.size, h.block⟩
end Go.Proofs.Ytiljjgohmjimdaa

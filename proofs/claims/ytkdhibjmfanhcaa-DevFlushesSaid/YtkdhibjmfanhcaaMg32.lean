/-
  DfB DfC
-/
import Derived.Test.YtkdhibjmfanhcaaMg31
/-
  The document's answers for layer 5: out, only, cat, has.
-/
namespace Go.Proofs.Ytkdhibjmfanhcaa
open Go.RowKit Geom Zone Dev
set_option linter.unusedVariables false

theorem elemC : Elem Try.prog 34 74 (.agg (Array.mk (.int .i64 0 :: .int .i64 0 :: List.replicate 64 (.int .u8 0)))) 66 80 := .of Try.underlying34 (by kernel_rfl) rfl (by omega)
theorem row_whole {w : World} {g : Nat} {l : List Wr} {j : Nat} {c : Wr} (hr : w.rangeAt g 0 (wcs l)) (hw : WOk l) (hj : l[j]? = some c) : w.rangeAt g (j * 66) (wc c) := fun i v hi => row_cell hr hw hj hi
theorem filter_snoc (f : Wr → Bool) (l : List Wr) (k : Nat) (c : Wr) (h : l[k]? = some c) : (l.take (k + 1)).filter f = (l.take k).filter f ++ if f c then [c] else [] := by
  have hk : k < l.length := (List.getElem?_eq_some_iff.1 h).1
  have e : l[k] = c := (List.getElem?_eq_some_iff.1 h).2
  rw [List.take_succ_eq_append_getElem hk, List.filter_append, e]
  by_cases hc : f c <;> simp [hc]
theorem wok_filter {l : List Wr} (f : Wr → Bool) (h : WOk l) : WOk (l.filter f) := fun c hc => h c (List.mem_filter.1 hc).1
theorem wok_take {l : List Wr} (k : Nat) (h : WOk l) : WOk (l.take k) := fun c hc => h c (List.mem_of_mem_take hc)
theorem wok_append {l m : List Wr} (h : WOk l) (k : WOk m) : WOk (l ++ m) := fun c hc => (List.mem_append.1 hc).elim (h c) (k c)

set_option maxRecDepth 100000 in
set_option maxHeartbeats 2000000 in
theorem dout_any (A : Option Addr) (n cap : Nat) (l : List Wr) (z : Int) (w : World) (hl : l.length = n) (hn : n ≤ 100000) (hw : WOk l) (hr : Row w w.heap.size A (wcs l)) :
    Calls Try.prog 30 #[.slice A n cap, .int .i64 z] w fun e w' => ∃ V, e = .returned V ∧ w'.ownsRow w.heap.size 74 66 V (outK l z).length (wcs (outK l z)) ∧ Below w.heap.size w w' := by
  obtain ⟨m, hm, hsz⟩ := big_size (P := Try.prog) (t := 74) (s := 66) (by kernel_rfl)
  have hm0 : ¬ m = 0 := by omega
  have hm1 : ¬ 16777216 < m := by omega
  have HM := Lib.hid hm
  have HR := Lib.hid hr
  have HW := Lib.hid (And.intro hl hw)
  clear hm hr hl hw
  go_enter Try.func30, Try.ntmps30
  go_wp2_with fail
  go_loopw [5, 6] (fun o i wr => ∃ k : Nat, k ≤ n ∧ i = .int .i64 k ∧ wr.ownsRow w.heap.size 74 66 o (outK (l.take k) z).length (wcs (outK (l.take k) z)) ∧ Below w.heap.size w wr) (fun _ i _ => n - (intOf i).toNat)
  case atStart => exact ⟨0, by omega, rfl, World.ownsRow_nil _ _ _ _, Below.refl _ _⟩
  case round =>
    obtain ⟨k, hk, rfl, hown, hbl⟩ := hrel
    by_cases hlt : k < n
    · have hkl : k < l.length := by rw [HW.out.1]; exact hlt
      have hlk : l[k]? = some (l.getD k (0, 0, z64)) := by simp [hkl]
      obtain ⟨g, rfl, hgl, hrg⟩ := HR.out.below hbl (wcs_ne HW.out.2 (by rintro rfl; simp at hkl))
      have hpl := HW.out.2 _ (List.mem_of_getElem? hlk)
      have hwl := wc_length hpl
      have c0 : wr.cell? ⟨g, k * m, none⟩ = some (.int .i64 (l.getD k (0, 0, z64)).1) := by rw [HM.out]; exact (row_zone hrg HW.out.2 hlk).1
      have hld := big_load0 Try.prog g (k * m) (wc (l.getD k (0, 0, z64))) m (by rw [hwl, HM.out]) wr (by rw [HM.out]; exact row_whole hrg HW.out.2 hlk)
      have hfs := filter_snoc (fun c => c.1 != z) l k _ hlk
      generalize l.getD k (0, 0, z64) = c at hlk hpl hwl c0 hld hfs
      have hki : (k : Int) < (n : Int) := by omega
      have hsz' := hbl.size
      have hfold := fold_box Try.zeroCells74 66 (wc c) m (by rw [hwl, HM.out])
      have hql : (outK (l.take k) z).length ≤ k := Nat.le_trans (List.length_filter_le _ _) (by simp; omega)
      have hlm : (wc c).length = m := by rw [hwl, HM.out]
      have HWL := Lib.hid (And.intro hwl hql)
      clear hlk hpl hwl hkl hrg hql
      by_cases hc : c.1 = z
      · have hcb : (c.1 != z) = false := by simp [hc]
        have HF := Lib.hid (show outK (l.take (k + 1)) z = outK (l.take k) z by unfold outK; rw [hfs, hcb]; simp)
        clear hfs hc
        have HO := Lib.hid (And.intro hown hbl)
        clear hown hbl
        go_wp2
        go_roundw
        case rel => exact ⟨k + 1, by omega, by go_num, by rw [HF.out]; exact HO.out.1, HO.out.2⟩
        case measure => first | (simp [intOf]; done) | (simp [intOf]; omega)
      · have hcb : (c.1 != z) = true := by simp [hc]
        have HF := Lib.hid (show outK (l.take (k + 1)) z = outK (l.take k) z ++ [c] by unfold outK; rw [hfs, hcb]; simp)
        clear hfs hc
        go_wp2_with (at_builtin; go_loud (refine wpList_append_new _ rfl _ _ _ rfl w.heap.size 74 _ 66 80 elemC u5 _ _ rfl (wc c) rfl hown HWL.out.1 (fun u hu => wc_cells hu) (by have := HWL.out.2; simp only [maxLen]; omega) (by have := HWL.out.2; omega) hsz' ?_); intro v1 w1 hown1 hg1; have HO := Lib.hid (And.intro hown1 (hbl.grown hg1 hsz' fun g hg => (hown.lt g hg).1)); clear hown1 hg1)
        go_roundw
        case rel =>
          refine ⟨k + 1, by omega, by go_num, ?_, HO.out.2⟩
          rw [HF.out, List.length_append, wcs_append, wcs_one]
          exact HO.out.1
        case measure => first | (simp [intOf]; done) | (simp [intOf]; omega)
    · obtain rfl : n = k := by omega
      rw [List.take_of_length_le (by rw [HW.out.1]; exact Nat.le_refl _)] at hown
      have HO := Lib.hid (And.intro hown hbl)
      clear hown hbl
      go_wp2
      go_ret
      exact ⟨_, rfl, HO.out.1, HO.out.2⟩

set_option maxRecDepth 100000 in
set_option maxHeartbeats 2000000 in
theorem donly_any (A : Option Addr) (n cap : Nat) (l : List Wr) (z : Int) (w : World) (hl : l.length = n) (hn : n ≤ 100000) (hw : WOk l) (hr : Row w w.heap.size A (wcs l)) :
    Calls Try.prog 31 #[.slice A n cap, .int .i64 z] w fun e w' => ∃ V, e = .returned V ∧ w'.ownsRow w.heap.size 74 66 V (onlyK l z).length (wcs (onlyK l z)) ∧ Below w.heap.size w w' := by
  obtain ⟨m, hm, hsz⟩ := big_size (P := Try.prog) (t := 74) (s := 66) (by kernel_rfl)
  have hm0 : ¬ m = 0 := by omega
  have hm1 : ¬ 16777216 < m := by omega
  have HM := Lib.hid hm
  have HR := Lib.hid hr
  have HW := Lib.hid (And.intro hl hw)
  clear hm hr hl hw
  go_enter Try.func31, Try.ntmps31
  go_wp2_with fail
  go_loopw [5, 6] (fun o i wr => ∃ k : Nat, k ≤ n ∧ i = .int .i64 k ∧ wr.ownsRow w.heap.size 74 66 o (onlyK (l.take k) z).length (wcs (onlyK (l.take k) z)) ∧ Below w.heap.size w wr) (fun _ i _ => n - (intOf i).toNat)
  case atStart => exact ⟨0, by omega, rfl, World.ownsRow_nil _ _ _ _, Below.refl _ _⟩
  case round =>
    obtain ⟨k, hk, rfl, hown, hbl⟩ := hrel
    by_cases hlt : k < n
    · have hkl : k < l.length := by rw [HW.out.1]; exact hlt
      have hlk : l[k]? = some (l.getD k (0, 0, z64)) := by simp [hkl]
      obtain ⟨g, rfl, hgl, hrg⟩ := HR.out.below hbl (wcs_ne HW.out.2 (by rintro rfl; simp at hkl))
      have hpl := HW.out.2 _ (List.mem_of_getElem? hlk)
      have hwl := wc_length hpl
      have c0 : wr.cell? ⟨g, k * m, none⟩ = some (.int .i64 (l.getD k (0, 0, z64)).1) := by rw [HM.out]; exact (row_zone hrg HW.out.2 hlk).1
      have hld := big_load0 Try.prog g (k * m) (wc (l.getD k (0, 0, z64))) m (by rw [hwl, HM.out]) wr (by rw [HM.out]; exact row_whole hrg HW.out.2 hlk)
      have hfs := filter_snoc (fun c => c.1 == z) l k _ hlk
      generalize l.getD k (0, 0, z64) = c at hlk hpl hwl c0 hld hfs
      have hki : (k : Int) < (n : Int) := by omega
      have hsz' := hbl.size
      have hfold := fold_box Try.zeroCells74 66 (wc c) m (by rw [hwl, HM.out])
      have hql : (onlyK (l.take k) z).length ≤ k := Nat.le_trans (List.length_filter_le _ _) (by simp; omega)
      have hlm : (wc c).length = m := by rw [hwl, HM.out]
      have HWL := Lib.hid (And.intro hwl hql)
      clear hlk hpl hwl hkl hrg hql
      by_cases hc : c.1 = z
      · have hcb : (c.1 == z) = true := by simp [hc]
        have HF := Lib.hid (show onlyK (l.take (k + 1)) z = onlyK (l.take k) z ++ [c] by unfold onlyK; rw [hfs, hcb]; simp)
        clear hfs hc
        go_wp2_with (at_builtin; go_loud (refine wpList_append_new _ rfl _ _ _ rfl w.heap.size 74 _ 66 80 elemC u5 _ _ rfl (wc c) rfl hown HWL.out.1 (fun u hu => wc_cells hu) (by have := HWL.out.2; simp only [maxLen]; omega) (by have := HWL.out.2; omega) hsz' ?_); intro v1 w1 hown1 hg1; have HO := Lib.hid (And.intro hown1 (hbl.grown hg1 hsz' fun g hg => (hown.lt g hg).1)); clear hown1 hg1)
        go_roundw
        case rel =>
          refine ⟨k + 1, by omega, by go_num, ?_, HO.out.2⟩
          rw [HF.out, List.length_append, wcs_append, wcs_one]
          exact HO.out.1
        case measure => first | (simp [intOf]; done) | (simp [intOf]; omega)
      · have hcb : (c.1 == z) = false := by simp [hc]
        have HF := Lib.hid (show onlyK (l.take (k + 1)) z = onlyK (l.take k) z by unfold onlyK; rw [hfs, hcb]; simp)
        clear hfs hc
        have HO := Lib.hid (And.intro hown hbl)
        clear hown hbl
        go_wp2
        go_roundw
        case rel => exact ⟨k + 1, by omega, by go_num, by rw [HF.out]; exact HO.out.1, HO.out.2⟩
        case measure => first | (simp [intOf]; done) | (simp [intOf]; omega)
    · obtain rfl : n = k := by omega
      rw [List.take_of_length_le (by rw [HW.out.1]; exact Nat.le_refl _)] at hown
      have HO := Lib.hid (And.intro hown hbl)
      clear hown hbl
      go_wp2
      go_ret
      exact ⟨_, rfl, HO.out.1, HO.out.2⟩

set_option maxRecDepth 100000 in
theorem dcat_any (A A' : Option Addr) (n cap n' cap' : Nat) (l l' : List Wr) (w : World) (hl : l.length = n) (hl' : l'.length = n') (hn : n ≤ 100000) (hn' : n' ≤ 100000) (hw : WOk l) (hw' : WOk l') (hr : Row w w.heap.size A (wcs l)) (hr' : Row w w.heap.size A' (wcs l')) :
    Calls Try.prog 29 #[.slice A n cap, .slice A' n' cap'] w fun e w' => ∃ V, e = .returned V ∧ w'.ownsRow w.heap.size 74 66 V (l ++ l').length (wcs (l ++ l')) ∧ Below w.heap.size w w' := by
  have HR := Lib.hid hr'.rd
  have HL := Lib.hid (And.intro (wcs_length hw) (And.intro (wcs_length hw') (And.intro hl hl')))
  have hrd := hr.rd
  clear hr hr' hw hw'
  go_enter Try.func29, Try.ntmps29
  go_wp2_with (first
    | (at_builtin; refine wpList_append_copy _ rfl _ _ _ rfl 74 _ 66 80 elemC rfl A n cap rfl (wcs l) (by rw [HL.out.1, HL.out.2.2.1]) hrd (fun _ h => wcs_cells h) (by simp only [maxLen]; omega) (by omega) ?_; intro A2 c2 w2 hown hb2; have hrd2 := HR.out.below hb2; have hs2 := hb2.size)
    | (at_builtin; refine wpList_append_rd _ rfl _ _ _ rfl w.heap.size 74 _ 66 80 elemC (.slice A2 n c2) n (wcs l) rfl hown w.heap.size A' n' cap' (wcs l') rfl (by rw [HL.out.2.1, HL.out.2.2.2]) hrd2 (fun _ h => wcs_cells h) (by simp only [maxLen]; omega) (by omega) hs2 ?_; intro v3 w3 hown3 hg3 _)
    | fail)
  go_ret
  refine ⟨_, rfl, ?_, hb2.trans ((Below.refl _ _).grown hg3 hs2 fun g hg => (hown.lt g hg).1)⟩
  rw [List.length_append, HL.out.2.2.1, HL.out.2.2.2, wcs_append]
  exact hown3

set_option maxRecDepth 100000 in
theorem dhas_any (A : Option Addr) (n cap : Nat) (l : List Int) (z : Int) (w : World) (hl : l.length = n) (hn : n ≤ 100000) (hr : Rd w w.heap.size A (ints l)) :
    Calls Try.prog 58 #[.slice A n cap, .int .i64 z] w fun e w' => e = .returned (.bool (decide (z ∈ l))) ∧ w = w' := by
  have HL := Lib.hid hl
  have HR := Lib.hid hr
  clear hl hr
  go_enter Try.func58, Try.ntmps58
  go_wp2_with fail
  go_loop [5] (fun i => ∃ k : Nat, k ≤ n ∧ i = .int .i64 k ∧ z ∉ l.take k) (fun i => n - (intOf i).toNat)
  case atStart => exact ⟨0, by omega, rfl, by simp⟩
  case round =>
    obtain ⟨k, hk, rfl, hz⟩ := hrel
    by_cases hlt : k < n
    · have hkl : k < l.length := by rw [HL.out]; exact hlt
      obtain ⟨ad, rfl, _, cq⟩ := HR.out.at (k := k) (u := .int .i64 (l.getD k 0)) (by simp [ints, List.getD_eq_getElem?_getD, List.getElem?_eq_getElem hkl])
      have hts : l.take (k + 1) = l.take k ++ [l.getD k 0] := by
        rw [List.take_succ_eq_append_getElem hkl, List.getD_eq_getElem?_getD, List.getElem?_eq_getElem hkl]
        rfl
      have hmem : l.getD k 0 ∈ l := by
        rw [List.getD_eq_getElem?_getD, List.getElem?_eq_getElem hkl]
        exact List.getElem_mem hkl
      have hki : (k : Int) < (n : Int) := by omega
      generalize l.getD k 0 = x at cq hts hmem
      have HZ := Lib.hid (And.intro hz hts)
      clear hz hts hkl
      by_cases he : x = z
      · have hb : (x == z) = true := by simp [he]
        have HF := Lib.hid (show decide (z ∈ l) = true from decide_eq_true (he ▸ hmem))
        clear he hmem
        go_wp2
        go_ret
        exact ⟨ret_bool HF.out, rfl⟩
      · have hb : (x == z) = false := by simpa using he
        have HF := Lib.hid (show z ∉ l.take (k + 1) by
          rw [HZ.out.2]
          intro h
          rcases List.mem_append.1 h with h | h
          · exact HZ.out.1 h
          · exact he (List.mem_singleton.1 h).symm)
        clear he hmem
        go_wp2
        go_round
        case rel => exact ⟨k + 1, by omega, by go_num, HF.out⟩
        case measure => first | (simp [intOf]; done) | (simp [intOf]; omega)
    · obtain rfl : n = k := by omega
      rw [List.take_of_length_le (by rw [HL.out]; exact Nat.le_refl _)] at hz
      have HF := Lib.hid (show decide (z ∈ l) = false from decide_eq_false hz)
      go_wp2
      go_ret
      first | exact ⟨ret_bool HF.out, rfl⟩ | exact ⟨rfl, rfl⟩
end Go.Proofs.Ytkdhibjmfanhcaa

/-
  The document's answers for layer 5: a disk in memory; Page.
-/
namespace Go.Proofs.Ytkdhibjmfanhcaa
open Go.RowKit Geom Zone Dev
set_option linter.unusedVariables false

/-- a disk's cells -/
structure KV where
  g0 : Int
  g1 : Int
  g2 : Int
  g3 : Int
  g4 : Int
  zv : Value
  dv : Value
  sv : Value
  cv : Value
  armed : Bool
  left : Int
  down : Bool
  ill : Int
def kcs (v : KV) : List Value := [.int .i64 v.g0, .int .i64 v.g1, .int .i64 v.g2, .int .i64 v.g3, .int .i64 v.g4, v.zv, v.dv, v.sv, v.cv, .bool v.armed, .int .i64 v.left, .bool v.down, .int .i64 v.ill]
abbrev nilV : Value := .slice none 0 0
def kd0 : KV := ⟨0, 0, 0, 0, 0, nilV, nilV, nilV, nilV, false, 0, false, 0⟩
/-- the four rows are slices -/
structure KOk (v : KV) : Prop where
  z : v.zv.oneCell' = true
  d : v.dv.oneCell' = true
  s : v.sv.oneCell' = true
  c : v.cv.oneCell' = true
theorem kcs_one {v : KV} (h : KOk v) : ∀ u ∈ kcs v, u.oneCell' = true := by
  intro u hu
  simp only [kcs, List.mem_cons, List.not_mem_nil, or_false] at hu
  rcases hu with rfl | rfl | rfl | rfl | rfl | rfl | rfl | rfl | rfl | rfl | rfl | rfl | rfl <;> first | rfl | exact h.z | exact h.d | exact h.s | exact h.c
theorem kd0_ok : KOk kd0 := ⟨rfl, rfl, rfl, rfl⟩
theorem zero_disk (w : World) : (zeroValue 36).run Try.prog w = .ok (.agg (kcs kd0).toArray) w :=
  (zero_of_info (P := Try.prog) (t := 36) (v := .agg (kcs kd0).toArray) (n := 13) (by kernel_rfl)).1 w
theorem kd_size (v : KV) : (Try.prog.info? 36).map (·.size) = some (kcs v).length := by show _ = some 13; kernel_rfl
section
variable {w : World} {b : Nat} {T : TypeId} {v : KV}
theorem Box.kd (h : Box w b T (kcs v)) : w.cell? ⟨b, 0, none⟩ = some (.int .i64 v.g0) ∧ w.cell? ⟨b, 1, none⟩ = some (.int .i64 v.g1) ∧ w.cell? ⟨b, 2, none⟩ = some (.int .i64 v.g2) ∧ w.cell? ⟨b, 3, none⟩ = some (.int .i64 v.g3) ∧ w.cell? ⟨b, 4, none⟩ = some (.int .i64 v.g4) :=
  ⟨h.cell 0, h.cell 1, h.cell 2, h.cell 3, h.cell 4⟩
theorem Box.kdv (h : Box w b T (kcs v)) : w.cell? ⟨b, 5, none⟩ = some v.zv ∧ w.cell? ⟨b, 6, none⟩ = some v.dv ∧ w.cell? ⟨b, 7, none⟩ = some v.sv ∧ w.cell? ⟨b, 8, none⟩ = some v.cv := ⟨h.cell 5, h.cell 6, h.cell 7, h.cell 8⟩
theorem Box.kdn (h : Box w b T (kcs v)) : w.cell? ⟨b, 9, none⟩ = some (.bool v.armed) ∧ w.cell? ⟨b, 10, none⟩ = some (.int .i64 v.left) ∧ w.cell? ⟨b, 11, none⟩ = some (.bool v.down) ∧ w.cell? ⟨b, 12, none⟩ = some (.int .i64 v.ill) := ⟨h.cell 9, h.cell 10, h.cell 11, h.cell 12⟩
end
section
variable {w : World} {ops : Array Oper} {rest : List Oper} {o : Oper} {a : Act} {Q : Exit → Act → World → Prop}
theorem wpList_kd_store (hgd : o.guard = none) (x y : Operand) (ho : o.op = .store 36 x y) (g : Nat) (r old : KV) (hr : KOk r) (hx : a.eval x = .pointer (some ⟨g, 0, none⟩)) (hy : a.eval y = .agg (kcs r).toArray) (hb : Box w g 36 (kcs old))
    (h : ∀ w', Box w' g 36 (kcs r) → w.grownBy w' (some g) → w'.heap.size = w.heap.size → wpList Try.prog ops Q rest (a.put o.dst undef) w') : wpList Try.prog ops Q (o :: rest) a w :=
  wpList_store_box w hgd _ x y ho g (kcs r) (kcs old) (kd_size r) rfl (kcs_one hr) hx hy hb
    (h _ (setRow_heap w g _ _ _ _ hb) ⟨rfl, rfl, rfl, by simp [World.setRow], fun k _ hk => setRow_other w g k _ (by intro e; exact hk (by rw [e]))⟩ (by simp [World.setRow]))
theorem wpList_kd_alloc (hgd : o.guard = none) (ho : o.op = .alloc 36)
    (h : ∀ w', Box w' w.heap.size 36 (kcs kd0) → Below w.heap.size w w' → w'.heap.size = w.heap.size + 1 → wpList Try.prog ops Q rest (a.put o.dst (.pointer (some ⟨w.heap.size, 0, none⟩))) w') : wpList Try.prog ops Q (o :: rest) a w :=
  wpList_alloc_box w hgd _ ho (kcs kd0) zero_disk h
theorem wpList_kd_box (hgd : o.guard = none) (x : Operand) (ho : o.op = .box 36 x) (r : KV) (hx : a.eval x = .agg (kcs r).toArray)
    (h : ∀ w', Box w' w.heap.size 36 (kcs r) → Below w.heap.size w w' → w'.heap.size = w.heap.size + 1 → wpList Try.prog ops Q rest (a.put o.dst (.pointer (some ⟨w.heap.size, 0, none⟩))) w') : wpList Try.prog ops Q (o :: rest) a w :=
  wpList_box_box w hgd _ x ho (kcs r) hx h
theorem wpList_at_box (hgd : o.guard = none) (x : Operand) (ho : o.op = .box 40 x) (i j : Int) (hx : a.eval x = .agg [.int .i64 i, .int .i64 j].toArray)
    (h : ∀ w', Box w' w.heap.size 40 [.int .i64 i, .int .i64 j] → Below w.heap.size w w' → w'.heap.size = w.heap.size + 1 → wpList Try.prog ops Q rest (a.put o.dst (.pointer (some ⟨w.heap.size, 0, none⟩))) w') : wpList Try.prog ops Q (o :: rest) a w :=
  wpList_box_box w hgd _ x ho _ hx h
end

/-- what stands in memory while Page works -/
def KpSt (w W : World) (v : KV) (a : Pl) : Prop := Box W w.heap.size 36 (kcs v) ∧ Box W (w.heap.size + 1) 40 [.int .i64 a.1, .int .i64 a.2] ∧ Box W (w.heap.size + 1 + 1) 42 (bs pg0) ∧ Below w.heap.size w W ∧ w.heap.size + 3 ≤ W.heap.size
theorem KpSt.on {w W W' : World} {v : KV} {a : Pl} (h : KpSt w W v a) (hb : Below W.heap.size W W') : KpSt w W' v a := ⟨h.1.on hb, h.2.1.on hb, h.2.2.1.on hb, bthen h.2.2.2.1 hb, Nat.le_trans h.2.2.2.2 hb.size⟩
theorem KpSt.start {w w1 w2 w3 : World} {v : KV} {a : Pl} (x0 : Box w1 w.heap.size 36 (kcs v)) (hB1 : Below w.heap.size w w1) (hs1 : w1.heap.size = w.heap.size + 1) (x1 : Box w2 w1.heap.size 40 [.int .i64 a.1, .int .i64 a.2]) (hB2 : Below w1.heap.size w1 w2) (hs2 : w2.heap.size = w1.heap.size + 1)
    (x2 : Box w3 w2.heap.size 42 (bs pg0)) (hB3 : Below w2.heap.size w2 w3) (hs3 : w3.heap.size = w2.heap.size + 1) : KpSt w w3 v a := by
  rw [hs2, hs1] at x2
  rw [hs1] at x1
  exact ⟨(x0.below hB2 (by omega)).below hB3 (by omega), x1.below hB3 (by omega), x2, bthen (bthen hB1 hB2) hB3, by omega⟩

set_option maxRecDepth 100000 in
set_option maxHeartbeats 2000000 in
theorem dpage_any (v : KV) (a : Pl) (As Ac : Option Addr) (ns cs nc cc : Nat) (safe cached : List Wr) (w : World) (hsv : v.sv = .slice As ns cs) (hcv : v.cv = .slice Ac nc cc) (hls : safe.length = ns) (hlc : cached.length = nc) (hns : ns ≤ 100000) (hnc : nc ≤ 100000)
    (hws : WOk safe) (hwc : WOk cached) (hrs : Row w w.heap.size As (wcs safe)) (hrc : Row w w.heap.size Ac (wcs cached)) :
    Calls Try.prog 16 #[.agg (kcs v).toArray, .agg #[.int .i64 a.1, .int .i64 a.2]] w fun e w' => e = .returned (.agg (bs (((fnd cached a).or (fnd safe a)).getD z64)).toArray) ∧ Below w.heap.size w w' := by
  obtain ⟨m, hm, hsz⟩ := big_size (P := Try.prog) (t := 42) (s := 64) (by kernel_rfl)
  have hm0 : ¬ m = 0 := by omega
  have HM := Lib.hid hm
  have HFc := Lib.hid fun (W : World) (hb : Below w.heap.size w W) => find_any Ac nc cc cached a W hlc hnc hwc ((hrc.below hb).more hb.size)
  have HFs := Lib.hid fun (W : World) (hb : Below w.heap.size w W) => find_any As ns cs safe a W hls hns hws ((hrs.below hb).more hb.size)
  have HPl := Lib.hid (show (∀ p, fnd cached a = some p → p.length = 64) ∧ ∀ p, fnd safe a = some p → p.length = 64 from ⟨fun p h => fnd_wok hwc h, fun p h => fnd_wok hws h⟩)
  clear hm hls hlc hws hwc hrs hrc
  go_enter Try.func16, Try.ntmps16
  go_wp2_with (first
    | ((with_reducible refine wpList_kd_box (o := ⟨some 2, .box _ _, _, _, _, _⟩) rfl _ rfl v rfl ?_); intro w1 x0 hB1 hs1)
    | ((with_reducible refine wpList_at_box (o := ⟨some 3, .box _ _, _, _, _, _⟩) rfl _ rfl a.1 a.2 rfl ?_); intro w2 x1 hB2 hs2)
    | ((with_reducible refine wpList_pg_alloc (o := ⟨some 4, .alloc _, _, _, _, _⟩) rfl rfl ?_); intro w3 x2 hB3 hs3; have L := KpSt.start x0 hB1 hs1 x1 hB2 hs2 x2 hB3 hs3; rw [hs2, hs1]; clear hs1 hs2 hs3 x0 x1 x2 hB1 hB2 hB3; have c8 := L.1.kdv.2.2.2; rw [hcv] at c8; have a0 : w3.cell? ⟨w.heap.size + 1, 0, none⟩ = some (.int .i64 a.1) := L.2.1.cell 0; have a1 : w3.cell? ⟨w.heap.size + 1, 1, none⟩ = some (.int .i64 a.2) := L.2.1.cell 1)
    | fail)
  refine (HFc.out _ L.2.2.2.1).mono ?_
  rintro e w4 ⟨rfl, hb4⟩
  replace L := L.on hb4
  clear hb4 c8 a0 a1 HFc
  have HL := Lib.hid L
  clear L
  generalize hfc : fnd cached a = fc at *
  have HPc := Lib.hid HPl.out.1
  have HRes := Lib.hid (show ((fnd cached a).or (fnd safe a)).getD z64 = (fc.or (fnd safe a)).getD z64 by rw [hfc])
  clear hfc
  cases fc with
  | some p =>
    have HP := Lib.hid (HPc.out p rfl)
    simp only [Option.getD_some, Option.isSome_some, Option.some_or] at *
    go_wp2_with (first
      | ((with_reducible refine wpList_pg_alloc (o := ⟨some 5, .alloc _, _, _, _, _⟩) rfl rfl ?_); intro w5 x5 hB5 _)
      | ((with_reducible refine wpList_pg_store (o := ⟨none, .store _ _ _, _, _, _, _⟩) rfl _ _ rfl w4.heap.size p pg0 HP.out rfl rfl rfl x5 ?_); intro w6 x6 hg6 _; have HL2 := Lib.hid (HL.out.on (below_stored hB5 hg6 hB5.size (Nat.le_refl _))); clear hB5 hg6 x5; have hx6 := HL2.out.2.2.1; have l6 := big_load0 Try.prog w4.heap.size 0 (bs p) m (by rw [bs_length, HP.out, HM.out]) _ x6.range0; clear x6)
      | ((with_reducible refine wpList_pg_store (o := ⟨none, .store _ _ _, _, _, _, _⟩) rfl _ _ rfl (w.heap.size + 1 + 1) p pg0 HP.out rfl rfl rfl hx6 ?_); intro w9 hb9 hg9 _)
      | fail)
    have hldF := big_load0 Try.prog (w.heap.size + 1 + 1) 0 (bs p) m (by rw [bs_length, HP.out, HM.out]) _ hb9.range0
    generalize hR : bs p = R at hldF ⊢
    exact bodyPost_ret (v := .agg R.toArray) (by simp [results, Try.results16, go_sem, hsz, hldF]) rfl ⟨by rw [HRes.out]; simp [hR], below_stored HL2.out.2.2.2.1 hg9 HL2.out.2.2.2.1.size (by omega)⟩
  | none =>
    simp only [Option.getD_none, Option.isSome_none, Option.none_or] at *
    go_wp2_with (first
      | ((with_reducible refine wpList_pg_alloc (o := ⟨some 5, .alloc _, _, _, _, _⟩) rfl rfl ?_); intro w5 x5 hB5 _)
      | ((with_reducible refine wpList_pg_store (o := ⟨none, .store _ _ _, _, _, _, _⟩) rfl _ _ rfl w4.heap.size z64 pg0 rfl rfl rfl rfl x5 ?_); intro w6 x6 hg6 _; have L2 := HL.out.on (below_stored hB5 hg6 hB5.size (Nat.le_refl _)); clear hB5 hg6 x5; have c7 := L2.1.kdv.2.2.1; rw [hsv] at c7; have a0 : w6.cell? ⟨w.heap.size + 1, 0, none⟩ = some (.int .i64 a.1) := L2.2.1.cell 0; have a1 : w6.cell? ⟨w.heap.size + 1, 1, none⟩ = some (.int .i64 a.2) := L2.2.1.cell 1; have HX6 := Lib.hid x6; clear x6)
      | fail)
    have HNe := Lib.hid (show w.heap.size + 1 + 1 ≠ w4.heap.size by have := HL.out.2.2.2.2; omega)
    have HB5 := Lib.hid (show w.heap.size ≤ w4.heap.size by have := HL.out.2.2.2.2; omega)
    generalize w4.heap.size = b5 at *
    refine (HFs.out _ L2.2.2.2.1).mono ?_
    rintro e w7 ⟨rfl, hb7⟩
    replace HL := Lib.hid (L2.on hb7)
    have HX7 := Lib.hid (HX6.out.on hb7)
    clear hb7 c7 a0 a1 HFs HX6 L2
    have HP : Hid (((fnd safe a).getD z64).length = 64) := Lib.hid (by
      cases h : fnd safe a with
      | none => rfl
      | some p => exact HPl.out.2 p h)
    have HRes2 := Lib.hid (show ((fnd cached a).or (fnd safe a)).getD z64 = (fnd safe a).getD z64 from HRes.out)
    generalize hpp : (fnd safe a).getD z64 = p at HP HRes2 ⊢
    clear hpp
    generalize (fnd safe a).isSome = bb at *
    go_wp2_with (first
      | ((with_reducible refine wpList_pg_store (o := ⟨none, .store _ _ _, _, _, _, _⟩) rfl _ _ rfl b5 p z64 HP.out rfl rfl rfl HX7.out ?_); intro w8 x8 hg8 _; have HG8 := Lib.hid hg8; have l8 := big_load0 Try.prog b5 0 (bs p) m (by rw [bs_length, HP.out, HM.out]) _ x8.range0; clear hg8 x8; have hx8 : Box w8 (w.heap.size + 1 + 1) 42 (bs pg0) := HL.out.2.2.1.grown HG8.out HNe.out)
      | ((with_reducible refine wpList_pg_store (o := ⟨none, .store _ _ _, _, _, _, _⟩) rfl _ _ rfl (w.heap.size + 1 + 1) p pg0 HP.out rfl rfl rfl hx8 ?_); intro w9 hb9 hg9 _)
      | fail)
    have hldF := big_load0 Try.prog (w.heap.size + 1 + 1) 0 (bs p) m (by rw [bs_length, HP.out, HM.out]) _ hb9.range0
    have hB8 : Below w.heap.size w w8 := below_stored HL.out.2.2.2.1 HG8.out HL.out.2.2.2.1.size (by have := HNe.out; have := HB5.out; omega)
    generalize hR : bs p = R at hldF ⊢
    exact bodyPost_ret (v := .agg R.toArray) (by simp [results, Try.results16, go_sem, hsz, hldF]) rfl ⟨by rw [HRes2.out, hR], below_stored hB8 hg9 hB8.size (by omega)⟩
end Go.Proofs.Ytkdhibjmfanhcaa

/-
  Comparing keys; slices.BinarySearchFunc over writes and over transactions; writeOf, transOf.
-/
import Derived.Test.YtiljjgohmjimdaaTrB
namespace Go.Proofs.Ytiljjgohmjimdaa
open Go.RowKit Word Tran
set_option linter.unusedVariables false

def Tran.cmpT (a b : Int) : Int := if a < b then -1 else if b < a then 1 else 0
theorem cmpT_neg {a b : Int} : cmpT a b < 0 ↔ a < b := by
  unfold cmpT
  by_cases h : a < b
  · simp [h]
  · by_cases h2 : b < a <;> simp [h, h2]
theorem cmpT_zero {a b : Int} : cmpT a b = 0 ↔ a = b := by
  unfold cmpT
  by_cases h : a < b
  · simp [h]; omega
  · by_cases h2 : b < a
    · simp [h, h2]; omega
    · simp [h, h2]; omega
theorem tgoes_in {P : Program} {f : FuncId} {fn : Func} {c : Code} (hf : P.funcs[f]? = some fn) (hname : (fn.name == "runtime.NumGoroutine") = false) (hb : fn.body = some c) (args : Array Value) (w : World) : (callFunc f args).run P w = .ok (.enter f args) w := by
  have h1 : fn.name ≠ "runtime.NumGoroutine" := by simpa using hname
  simp [callFunc, hf, h1, hb, mark]
theorem tisnan_any (a : Int) (w : World) : Calls Try.prog 36 #[.int .i64 a] w fun e w' => e = .returned (.bool false) ∧ w' = w := by
  have hq : (a != a) = false := by simp
  go_enter Try.func36, Try.ntmps36
  go_wp2
  go_ret
  exact ⟨by simp, rfl⟩
theorem tcompare_any (a b : Int) (w : World) : Calls Try.prog 31 #[.int .i64 a, .int .i64 b] w fun e w' => e = .returned (.int .i64 (cmpT a b)) ∧ w' = w := by
  have HN := Lib.hid fun (x : Int) (w' : World) => tisnan_any x w'
  by_cases h1 : a < b
  · have HC := Lib.hid (show cmpT a b = -1 from if_pos h1)
    go_enter Try.func31, Try.ntmps31
    go_wp2_with (first
      | (go_at_call 36; refine (HN.out _ _).mono ?_; rintro e w' ⟨rfl, rfl⟩)
      | fail)
    go_ret
    exact ⟨ret_int HC.out, rfl⟩
  · by_cases h2 : b < a
    · have HC := Lib.hid (show cmpT a b = 1 by unfold cmpT; rw [if_neg h1, if_pos h2])
      go_enter Try.func31, Try.ntmps31
      go_wp2_with (first
        | (go_at_call 36; refine (HN.out _ _).mono ?_; rintro e w' ⟨rfl, rfl⟩)
        | fail)
      go_ret
      exact ⟨ret_int HC.out, rfl⟩
    · have HC := Lib.hid (show cmpT a b = 0 by unfold cmpT; rw [if_neg h1, if_neg h2])
      go_enter Try.func31, Try.ntmps31
      go_wp2_with (first
        | (go_at_call 36; refine (HN.out _ _).mono ?_; rintro e w' ⟨rfl, rfl⟩)
        | fail)
      go_ret
      exact ⟨ret_int HC.out, rfl⟩
set_option maxRecDepth 100000 in
theorem wcmp_any (x : Wt) (b : Int) (w : World) (hx : WIn x) : Calls Try.prog 34 #[wval x, .int .i64 b] w fun e w' => e = .returned (.int .i64 (cmpT x.b b)) ∧ Below w.heap.size w w' := by
  go_enter Try.func34, Try.ntmps34
  go_wp2_with (first
    | ((with_reducible refine wpList_wt_box (o := ⟨some 2, .box _ _, _, _, _, _⟩) rfl _ rfl x rfl ?_); intro w1 x1 B1 s1; obtain ⟨c0, _⟩ := x1.wt; have H1 := Lib.hid B1; clear x1 B1 s1)
    | fail)
  refine (tcompare_any _ _ _).mono ?_
  rintro e w2 ⟨rfl, rfl⟩
  go_wp2
  go_ret
  exact ⟨rfl, H1.out⟩
set_option maxRecDepth 100000 in
theorem tcmp_any (x : Tv) (b : Int) (w : World) : Calls Try.prog 30 #[tval x, .int .i64 b] w fun e w' => e = .returned (.int .i64 (cmpT x.t.id b)) ∧ Below w.heap.size w w' := by
  go_enter Try.func30, Try.ntmps30
  go_wp2_with (first
    | ((with_reducible refine wpList_box_box _ (o := ⟨some 2, .box _ _, _, _, _, _⟩) rfl _ _ rfl (tnc x) rfl ?_); intro w1 x1 B1 s1; obtain ⟨c0, _⟩ := tn_box x1; have H1 := Lib.hid B1; clear x1 B1 s1)
    | fail)
  refine (tcompare_any _ _ _).mono ?_
  rintro e w2 ⟨rfl, rfl⟩
  go_wp2
  go_ret
  exact ⟨rfl, H1.out⟩
theorem keys_at {l : List Wt} {k : Nat} {x : Wt} (h : l[k]? = some x) : (keys l)[k]? = some x.b := by
  rw [List.getElem?_map, h]
  rfl
theorem ids_at {l : List Tn} {k : Nat} {x : Tn} (h : l[k]? = some x) : (ids l)[k]? = some x.id := by
  rw [List.getElem?_map, h]
  rfl
/-- what a binary search knows: what stands ahead of i is below, what stands from j on isn't -/
structure Sea (b : Int) (K : List Int) (i j : Nat) : Prop where
  low : ∀ k x, k < i → K[k]? = some x → x < b
  high : ∀ k x, j ≤ k → K[k]? = some x → b ≤ x
theorem Sea.start (b : Int) (K : List Int) : Sea b K 0 K.length := ⟨fun k x hk => by omega, fun k x hk hx => by rw [List.getElem?_eq_none hk] at hx; cases hx⟩
theorem Sea.up {b : Int} {K : List Int} {i j h : Nat} {y : Int} (s : Sea b K i j) (hr : Rise K) (hy : K[h]? = some y) (hlt : y < b) : Sea b K (h + 1) j :=
  ⟨fun k x hk hx => by have := rise_at hr (show k ≤ h by omega) hx hy; omega, s.high⟩
theorem Sea.down {b : Int} {K : List Int} {i j h : Nat} {y : Int} (s : Sea b K i j) (hr : Rise K) (hy : K[h]? = some y) (hlt : ¬ y < b) : Sea b K i h :=
  ⟨s.low, fun k x hk hx => by have := rise_at hr hk hy hx; omega⟩
theorem Sea.done {b : Int} {K : List Int} {i : Nat} (s : Sea b K i i) (hi : i ≤ K.length) : pos b K = i := pos_is hi s.low s.high
set_option maxRecDepth 100000 in
set_option maxHeartbeats 4000000 in
theorem wsearch_any (A : Option Addr) (n cap : Nat) (l : List Wt) (b : Int) (w : World) (hm : n ≤ 100000) (hn : l.length = n) (hin : ∀ o ∈ l, WIn o) (hs : Rise (keys l)) (hr : Rd w w.heap.size A (tws l)) :
    Calls Try.prog 33 #[.slice A n cap, .int .i64 b, .func (.func 34) #[] #[]] w fun e w' =>
      e = .returned (.tuple #[.int .i64 (pos b (keys l) : Nat), .bool (hit b (keys l))]) ∧ Below w.heap.size w w' := by
  obtain ⟨m, hm34, hsz⟩ := big_size (P := Try.prog) (t := 49) (s := 34) (by kernel_rfl)
  have hm0 : ¬ m = 0 := by omega
  have HM := Lib.hid hm34
  have HN := Lib.hid hn
  have HR := Lib.hid hr
  have HI := Lib.hid hin
  have HS := Lib.hid hs
  have HE : ∀ args (w' : World), (callFunc 34 args).run Try.prog w' = .ok (.enter 34 args) w' := tgoes_in Try.func34 (by kernel_rfl) rfl
  clear hm34 hn hr hin hs
  go_enter Try.func33, Try.ntmps33
  go_wp2
  go_loopw [9, 10] (fun i j wr => ∃ lo hi : Nat, i = .int .i64 lo ∧ j = .int .i64 hi ∧ lo ≤ hi ∧ hi ≤ n ∧ Hid (Sea b (keys l) lo hi) ∧ Hid (Below w.heap.size w wr)) (fun i j _ => (intOf j).toNat - (intOf i).toNat)
  case atStart => exact ⟨0, n, rfl, rfl, Nat.zero_le _, Nat.le_refl _, Lib.hid (by have := Sea.start b (keys l); rwa [List.length_map, HN.out] at this), Lib.hid (Below.refl _ _)⟩
  case round =>
    obtain ⟨lo, hi, rfl, rfl, hlh, hhn, H1, H2⟩ := hrel
    by_cases hlt : lo < hi
    · obtain ⟨h, hh⟩ : ∃ h : Nat, (lo + hi) / 2 = h := ⟨_, rfl⟩
      have hq : ((lo : Int) + (hi : Int)) / 2 = (h : Int) := by omega
      have hlo : lo ≤ h := by omega
      have hhi : h < hi := by omega
      have HH := Lib.hid hh
      clear hh
      have hkl : h < l.length := by rw [HN.out]; omega
      have hlk : l[h]? = some (l[h]'hkl) := List.getElem?_eq_getElem hkl
      obtain ⟨ad, rfl, hld, _⟩ := wt_load (m := m) (HR.out.below H2.out) HI.out hlk HM.out
      have HX := Lib.hid (And.intro (HI.out _ (List.getElem_mem hkl)) (keys_at hlk))
      generalize l[h]'hkl = x at *
      clear hlk hkl
      by_cases hx : x.b < b
      · have hcx : Hid (cmpT x.b b < 0) := Lib.hid (cmpT_neg.2 hx)
        have HX2 := Lib.hid hx
        clear hx
        have hcd : (decide (cmpT x.b b < 0)) = true := decide_eq_true hcx.out
        go_wp2_with (first
          | (go_at_call 34; refine (wcmp_any x b wr HX.out.1).mono ?_; rintro e w2 ⟨rfl, hb⟩; have H3 := Lib.hid (bthen H2.out hb); clear hb hld)
          | fail)
        go_roundw
        case rel => exact ⟨h + 1, hi, by go_num, rfl, by omega, hhn, Lib.hid (H1.out.up HS.out HX.out.2 HX2.out), H3⟩
        case measure => first | (simp [intOf]; done) | (simp [intOf]; omega)
      · have HX2 := Lib.hid hx
        have hcx : Hid (¬ cmpT x.b b < 0) := Lib.hid (fun h => hx (cmpT_neg.1 h))
        clear hx
        have hcd : (decide (cmpT x.b b < 0)) = false := decide_eq_false hcx.out
        go_wp2_with (first
          | (go_at_call 34; refine (wcmp_any x b wr HX.out.1).mono ?_; rintro e w2 ⟨rfl, hb⟩; have H3 := Lib.hid (bthen H2.out hb); clear hb hld)
          | fail)
        go_roundw
        case rel => exact ⟨lo, h, rfl, by go_num, by omega, by omega, Lib.hid (H1.out.down HS.out HX.out.2 (by have := HX2.out; omega)), H3⟩
        case measure => first | (simp [intOf]; done) | (simp [intOf]; omega)
    · obtain rfl : hi = lo := by omega
      have HP := Lib.hid (H1.out.done (by rw [List.length_map, HN.out]; exact hhn))
      by_cases hlt2 : hi < n
      · have hkl : hi < l.length := by rw [HN.out]; exact hlt2
        have hlk : l[hi]? = some (l[hi]'hkl) := List.getElem?_eq_getElem hkl
        obtain ⟨ad, rfl, hld, _⟩ := wt_load (m := m) (HR.out.below H2.out) HI.out hlk HM.out
        have HX := Lib.hid (HI.out _ (List.getElem_mem hkl))
        have HT := Lib.hid (show hit b (keys l) = decide (l[hi].b = b) from hit_some (by rw [HP.out]; exact keys_at hlk))
        generalize l[hi]'hkl = x at *
        clear hlk hkl
        have HV := Lib.hid (show (cmpT x.b b == 0) = decide (x.b = b) by
          by_cases e : x.b = b
          · rw [decide_eq_true e]; simpa using cmpT_zero.2 e
          · rw [decide_eq_false e]; simpa using fun h => e (cmpT_zero.1 h))
        go_wp2_with (first
          | (go_at_call 34; refine (wcmp_any x b wr HX.out).mono ?_; rintro e w2 ⟨rfl, hb⟩; have H3 := Lib.hid (bthen H2.out hb); clear hb hld)
          | fail)
        go_ret2
        exact ⟨by rw [HP.out, HT.out, ← HV.out]; rfl, H3.out⟩
      · have HT := Lib.hid (show hit b (keys l) = false from hit_none (by rw [HP.out, List.length_map, HN.out]; omega))
        go_wp2
        go_ret2
        exact ⟨by rw [HP.out, HT.out]; rfl, H2.out⟩
/-- the handles -/
def tids (l : List Tv) : List Int := ids (l.map Tv.t)
theorem tids_length (l : List Tv) : (tids l).length = l.length := by simp [tids]
theorem tv_at {l : List Tv} {k : Nat} {x : Tv} (h : l[k]? = some x) : (l.map Tv.t)[k]? = some x.t := by
  rw [List.getElem?_map, h]
  rfl
set_option maxRecDepth 100000 in
set_option maxHeartbeats 4000000 in
theorem tsearch_any (A : Option Addr) (n cap : Nat) (l : List Tv) (b : Int) (w : World) (hm : n ≤ 100000) (hn : l.length = n) (hs : Rise (tids l)) (hr : Rd w w.heap.size A (tns l)) :
    Calls Try.prog 29 #[.slice A n cap, .int .i64 b, .func (.func 30) #[] #[]] w fun e w' =>
      e = .returned (.tuple #[.int .i64 (pos b (tids l) : Nat), .bool (hit b (tids l))]) ∧ Below w.heap.size w w' := by
  have HN := Lib.hid hn
  have HR := Lib.hid hr
  have HS := Lib.hid hs
  have HE : ∀ args (w' : World), (callFunc 30 args).run Try.prog w' = .ok (.enter 30 args) w' := tgoes_in Try.func30 (by kernel_rfl) rfl
  clear hn hr hs
  go_enter Try.func29, Try.ntmps29
  go_wp2
  go_loopw [9, 10] (fun i j wr => ∃ lo hi : Nat, i = .int .i64 lo ∧ j = .int .i64 hi ∧ lo ≤ hi ∧ hi ≤ n ∧ Hid (Sea b (tids l) lo hi) ∧ Hid (Below w.heap.size w wr)) (fun i j _ => (intOf j).toNat - (intOf i).toNat)
  case atStart => exact ⟨0, n, rfl, rfl, Nat.zero_le _, Nat.le_refl _, Lib.hid (by have := Sea.start b (tids l); rwa [tids_length, HN.out] at this), Lib.hid (Below.refl _ _)⟩
  case round =>
    obtain ⟨lo, hi, rfl, rfl, hlh, hhn, H1, H2⟩ := hrel
    by_cases hlt : lo < hi
    · obtain ⟨h, hh⟩ : ∃ h : Nat, (lo + hi) / 2 = h := ⟨_, rfl⟩
      have hq : ((lo : Int) + (hi : Int)) / 2 = (h : Int) := by omega
      have hlo : lo ≤ h := by omega
      have hhi : h < hi := by omega
      have HH := Lib.hid hh
      clear hh
      have hkl : h < l.length := by rw [HN.out]; omega
      have hlk : l[h]? = some (l[h]'hkl) := List.getElem?_eq_getElem hkl
      obtain ⟨ad, rfl, _, e0, e1, e2⟩ := tn_at (HR.out.below H2.out) hlk
      have HX := Lib.hid (And.intro True.intro (ids_at (tv_at hlk)))
      generalize l[h]'hkl = x at *
      clear hlk hkl
      by_cases hx : x.t.id < b
      · have hcx : Hid (cmpT x.t.id b < 0) := Lib.hid (cmpT_neg.2 hx)
        have HX2 := Lib.hid hx
        clear hx
        have hcd : (decide (cmpT x.t.id b < 0)) = true := decide_eq_true hcx.out
        go_wp2_with (first
          | (go_at_call 30; refine (tcmp_any x b wr).mono ?_; rintro e w2 ⟨rfl, hb⟩; have H3 := Lib.hid (bthen H2.out hb); clear hb e0 e1 e2)
          | fail)
        go_roundw
        case rel => exact ⟨h + 1, hi, by go_num, rfl, by omega, hhn, Lib.hid (H1.out.up HS.out HX.out.2 HX2.out), H3⟩
        case measure => first | (simp [intOf]; done) | (simp [intOf]; omega)
      · have HX2 := Lib.hid hx
        have hcx : Hid (¬ cmpT x.t.id b < 0) := Lib.hid (fun h => hx (cmpT_neg.1 h))
        clear hx
        have hcd : (decide (cmpT x.t.id b < 0)) = false := decide_eq_false hcx.out
        go_wp2_with (first
          | (go_at_call 30; refine (tcmp_any x b wr).mono ?_; rintro e w2 ⟨rfl, hb⟩; have H3 := Lib.hid (bthen H2.out hb); clear hb e0 e1 e2)
          | fail)
        go_roundw
        case rel => exact ⟨lo, h, rfl, by go_num, by omega, by omega, Lib.hid (H1.out.down HS.out HX.out.2 (by have := HX2.out; omega)), H3⟩
        case measure => first | (simp [intOf]; done) | (simp [intOf]; omega)
    · obtain rfl : hi = lo := by omega
      have HP := Lib.hid (H1.out.done (by rw [tids_length, HN.out]; exact hhn))
      by_cases hlt2 : hi < n
      · have hkl : hi < l.length := by rw [HN.out]; exact hlt2
        have hlk : l[hi]? = some (l[hi]'hkl) := List.getElem?_eq_getElem hkl
        obtain ⟨ad, rfl, _, e0, e1, e2⟩ := tn_at (HR.out.below H2.out) hlk
        have HT := Lib.hid (show hit b (tids l) = decide (l[hi].t.id = b) from hit_some (by rw [HP.out]; exact ids_at (tv_at hlk)))
        generalize l[hi]'hkl = x at *
        clear hlk hkl
        have HV := Lib.hid (show (cmpT x.t.id b == 0) = decide (x.t.id = b) by
          by_cases e : x.t.id = b
          · rw [decide_eq_true e]; simpa using cmpT_zero.2 e
          · rw [decide_eq_false e]; simpa using fun h => e (cmpT_zero.1 h))
        go_wp2_with (first
          | (go_at_call 30; refine (tcmp_any x b wr).mono ?_; rintro e w2 ⟨rfl, hb⟩; have H3 := Lib.hid (bthen H2.out hb); clear hb e0 e1 e2)
          | fail)
        go_ret2
        exact ⟨by rw [HP.out, HT.out, ← HV.out]; rfl, H3.out⟩
      · have HT := Lib.hid (show hit b (tids l) = false from hit_none (by rw [HP.out, tids_length, HN.out]; omega))
        go_wp2
        go_ret2
        exact ⟨by rw [HP.out, HT.out]; rfl, H2.out⟩
set_option maxRecDepth 100000 in
theorem writeOf_any (x : Tv) (b : Int) (w : World) (hm : x.t.ws.length ≤ 100000) (hin : ∀ o ∈ x.t.ws, WIn o) (hs : Rise (keys x.t.ws)) (hr : Rd w w.heap.size x.A (tws x.t.ws)) :
    Calls Try.prog 27 #[tval x, .int .i64 b] w fun e w' => e = .returned (.tuple #[.int .i64 (pos b (keys x.t.ws) : Nat), .bool (hit b (keys x.t.ws))]) ∧ Below w.heap.size w w' := by
  go_enter Try.func27, Try.ntmps27
  go_wp2_with (first
    | ((with_reducible refine wpList_box_box _ (o := ⟨some 2, .box _ _, _, _, _, _⟩) rfl _ _ rfl (tnc x) rfl ?_); intro w1 x1 B1 s1; obtain ⟨_, _, c2⟩ := tn_box x1; have H1 := Lib.hid B1; clear x1 B1 s1)
    | fail)
  refine (wsearch_any x.A x.t.ws.length x.cap x.t.ws b w1 hm rfl hin hs ((hr.below H1.out).more H1.out.size)).mono ?_
  rintro e w2 ⟨rfl, hb⟩
  have H2 := Lib.hid (bthen H1.out hb)
  clear hb c2
  go_wp2
  go_ret2
  exact ⟨rfl, H2.out⟩
set_option maxRecDepth 100000 in
theorem transOf_any (x : Lv) (b : Int) (w : World) (hm : x.l.length ≤ 100000) (hs : Rise (tids x.l)) (hr : Rd w w.heap.size x.A (tns x.l)) :
    Calls Try.prog 23 #[lval x, .int .i64 b] w fun e w' => e = .returned (.tuple #[.int .i64 (pos b (tids x.l) : Nat), .bool (hit b (tids x.l))]) ∧ Below w.heap.size w w' := by
  go_enter Try.func23, Try.ntmps23
  go_wp2_with (first
    | ((with_reducible refine wpList_box_box _ (o := ⟨some 2, .box _ _, _, _, _, _⟩) rfl _ _ rfl (lgc x) rfl ?_); intro w1 x1 B1 s1; obtain ⟨_, c1⟩ := lg_box x1; have H1 := Lib.hid B1; clear x1 B1 s1)
    | fail)
  refine (tsearch_any x.A x.l.length x.cap x.l b w1 hm rfl hs ((hr.below H1.out).more H1.out.size)).mono ?_
  rintro e w2 ⟨rfl, hb⟩
  have H2 := Lib.hid (bthen H1.out hb)
  clear hb c1
  go_wp2
  go_ret2
  exact ⟨rfl, H2.out⟩
end Go.Proofs.Ytiljjgohmjimdaa

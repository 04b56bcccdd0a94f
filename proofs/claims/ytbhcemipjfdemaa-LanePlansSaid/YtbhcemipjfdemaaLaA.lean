/-
  Package lane: bits.Mul of 1; slices' Repeat of one number; a copy of a pool.
-/
import Derived.Test.YtbhcemipjfdemaaPoSt
import Derived.Laws.CopyOwn
import Derived.Laws.Bits64b
import Derived.Deep.RegionLaw
namespace Go.Proofs.Ytbhcemipjfdemaa
open Go.RowKit Geom Leaf Pol
set_option linter.unusedVariables false

set_option maxHeartbeats 1000000 in
theorem mul64_any (n : Nat) (w : World) (hn : n ≤ 16384) :
    Calls Try.prog 55 #[.int .u64 1, .int .u64 n] w fun e w' => e = .returned (.tuple #[.int .u64 0, .int .u64 n]) ∧ w = w' := by
  have e1 : bits .and .u64 1 4294967295 = 1 := by decide
  have e2 : bits .and .u64 (n : Int) 4294967295 = n := by
    have h := bits_and_u64_nat n 4294967295 (by omega) (by omega)
    have e : n &&& 4294967295 = n % 4294967296 := Nat.and_two_pow_sub_one_eq_mod n 32
    rw [e] at h
    rw [show (4294967295 : Int) = ((4294967295 : Nat) : Int) from rfl, h]
    omega
  have e3 : (n : Int) / 4294967296 = 0 := by omega
  have e4 : bits .and .u64 0 4294967295 = 0 := by decide
  go_enter Try.func55, Try.ntmps55
  go_wp2
  go_ret2
  exact ⟨rfl, rfl⟩
set_option maxHeartbeats 1000000 in
theorem mul_any (n : Nat) (w : World) (hn : n ≤ 16384) :
    Calls Try.prog 52 #[.int .u64 1, .int .u64 n] w fun e w' => e = .returned (.tuple #[.int .u64 0, .int .u64 n]) ∧ w = w' := by
  have H := Lib.hid fun w => mul64_any n w hn
  go_enter Try.func52, Try.ntmps52
  go_wp2_with fail
  refine (H.out _).mono ?_
  rintro e w1 ⟨rfl, rfl⟩
  go_wp2
  go_ret2
  exact ⟨rfl, rfl⟩
theorem own_cells {w : World} {base g n : Nat} {e : TypeId} {xs : List Value} (h : w.ownsRow base e 1 (.slice (some ⟨g, 0, none⟩) n n) n xs) : w.heap[g]? = some (.cells xs.toArray e (0, 0)) ∧ xs.length = n ∧ base ≤ g ∧ g < w.heap.size := by
  obtain ⟨hxl, hown2⟩ := h
  rcases hown2 with ⟨hv, _⟩ | ⟨g', cap, cur, hv, hgb, hheap, hnc, hcm, hcs, htk⟩
  · cases hv
  obtain ⟨rfl, rfl⟩ : g = g' ∧ n = cap := by injection hv with a b c; injection a with a; injection a with a; exact ⟨a, c⟩
  have e : xs = cur.toList := by rw [← htk, List.take_of_length_le (by simp; omega)]
  subst e
  exact ⟨by simpa using hheap, by simpa using hxl, hgb, (Array.getElem?_eq_some_iff.1 hheap).1⟩
theorem own_of_cells {w : World} {base g n : Nat} {e : TypeId} {xs : List Value} (h : w.heap[g]? = some (.cells xs.toArray e (0, 0))) (hl : xs.length = n) (hb : base ≤ g) (hm : n ≤ maxLen) : w.ownsRow base e 1 (.slice (some ⟨g, 0, none⟩) n n) n xs := by
  refine ⟨by rw [hl, Nat.mul_one], .inr ⟨g, n, xs.toArray, rfl, hb, h, Nat.le_refl _, hm, by simp; omega, List.take_of_length_le (by simp; omega)⟩⟩
/-- k elements of n are laid -/
abbrev laidR (x : Int) (k n : Nat) : List Value := is (List.replicate k x ++ List.replicate (n - k) 0)
theorem laid_put (x : Int) {k m n : Nat} (hk : k + m ≤ n) : splice (laidR x k n) k (is (List.replicate m x)) = laidR x (k + m) n := by
  have e1 : (is (List.replicate m x)).length = m := by rw [is_length, List.length_replicate]
  unfold splice
  rw [e1]
  simp only [laidR, is, ← List.map_take, ← List.map_drop, ← List.map_append]
  congr 1
  rw [List.take_append_of_le_length (by simp), List.take_of_length_le (by simp), List.drop_append, List.drop_eq_nil_of_le (by simp), List.nil_append, List.length_replicate, List.drop_replicate, ← List.append_assoc, List.replicate_append_replicate]
  congr 2
  omega
theorem laid_more (x : Int) {k n : Nat} (hk : k ≤ n) : splice (laidR x k n) k (is (List.replicate (min k (n - k)) x)) = laidR x (k + min k (n - k)) n := laid_put x (by omega)
theorem laid_one (x : Int) (n : Nat) : splice (is (List.replicate n 0)) 0 (is (List.replicate (min 1 n) x)) = laidR x (min 1 n) n := by
  have h := laid_put x (k := 0) (m := min 1 n) (n := n) (by omega)
  rw [Nat.zero_add] at h
  exact h
set_option maxRecDepth 100000 in
set_option maxHeartbeats 4000000 in
theorem srepeat_any (A : Option Addr) (cap : Nat) (x : Int) (n : Nat) (w : World) (hn : n ≤ 16384) (hr : Rd w w.heap.size A (is [x])) :
    Calls Try.prog 47 #[.slice A 1 cap, .int .i64 n] w fun e w' => ∃ g, e = .returned (.slice (some ⟨g, 0, none⟩) n n) ∧ w'.ownsRow w.heap.size 3 1 (.slice (some ⟨g, 0, none⟩) n n) n (is (List.replicate n x)) ∧ Below w.heap.size w w' := by
  have H := Lib.hid fun w => mul_any n w hn
  have HN := Lib.hid hn
  have HR := Lib.hid hr
  have hsz1 : (Try.prog.info? 3).map (·.size) = some 1 := by kernel_rfl
  clear hr
  go_enter Try.func47, Try.ntmps47
  go_wp2_with fail
  refine (H.out _).mono ?_
  rintro e w1 ⟨rfl, rfl⟩
  obtain ⟨m, hm⟩ : ∃ m, min 1 n = m := ⟨_, rfl⟩
  have HM := Lib.hid hm
  have hmn : m ≤ n := by omega
  obtain ⟨L0, hL0⟩ : ∃ L0, is (List.replicate m x) = L0 := ⟨_, rfl⟩
  have HL0 := Lib.hid hL0
  have hl0 : L0.length = m := by rw [← hL0, is_length, List.length_replicate]
  have Hl0 := Lib.hid hl0
  have H1 := Lib.hid (is_one (List.replicate m x))
  rw [hL0] at H1
  obtain ⟨Z0, hZ0⟩ : ∃ Z0, is (List.replicate n 0) = Z0 := ⟨_, rfl⟩
  have HZ0 := Lib.hid hZ0
  have HZl := Lib.hid (show Z0.length = n by rw [← hZ0, is_length, List.length_replicate])
  have HPos : Hid (∀ w2, Below w.heap.size w w2 → 0 < L0.length → ∃ ad, A = some ad ∧ ∀ j v, L0[j]? = some v → w2.cell? (ad.add j) = some v) := Lib.hid fun w2 hb2 h => by
    obtain ⟨ad, hA, _, hc⟩ := (HR.out.below hb2) (by simp [is])
    refine ⟨ad, hA, fun j v hj => hc j v ?_⟩
    rw [hl0] at h
    rw [← hL0] at hj
    obtain rfl : m = 1 := by omega
    exact hj
  clear hL0 hZ0 hm
  go_wp2_with (first
    | ((with_reducible refine wpList_make_z _ (o := ⟨some _, .makeSlice _ _ _, _, _, _, _⟩) rfl _ _ 24 rfl 3 _ 8 pelemI rfl .i64 .i64 n n n rfl rfl rfl rfl (by simp only [maxLen]; omega) (by omega) ?_); intro w2 hown2 hb2; have hg2 := (own_cells hown2).1; rw [show List.replicate n (Value.int .i64 0) = Z0 by rw [← HZ0.out]; exact (List.map_replicate).symm] at hg2; have HG2 := Lib.hid hg2; clear hg2 hown2)
    | ((with_reducible refine wpList_copy_splice (o := ⟨_, .call _, _, _, _, _⟩) rfl _ _ 24 24 rfl 3 Try.underlying24 hsz1 _ _ n n 1 cap rfl rfl w.heap.size 0 Z0 3 HG2.out L0 (Hl0.out.trans HM.out.symm) (fun h => ⟨rfl, HPos.out w2 hb2 h⟩) (by rw [HZl.out, Hl0.out]; omega) H1.out w.heap.size w hb2 (Nat.le_refl _) ?_); intro w3 hg3 hb3; clear hb2 HG2))
  have hg3' := hg3.out
  rw [← HZ0.out, ← HL0.out, ← HM.out, laid_one, HM.out] at hg3'
  have H3 := Lib.hid hg3'
  have HB3 := Lib.hid hb3
  clear hg3 hg3' hb3
  go_loopw [8] (fun i wr => ∃ k : Nat, m ≤ k ∧ k ≤ n ∧ i = .int .i64 k ∧ wr.heap[w.heap.size]? = some (.cells (laidR x k n).toArray 3 (0, 0)) ∧ Below w.heap.size w wr) (fun i _ => n - (intOf i).toNat)
  case atStart => exact ⟨m, by omega, by omega, by simp [goInt, hl0], H3.out, HB3.out⟩
  case round =>
    obtain ⟨k, hk1, hk2, rfl, hG, hB⟩ := hrel
    have HG := Lib.hid hG
    have HB := Lib.hid hB
    clear hG hB
    by_cases hlt : k < n
    rotate_left
    · obtain rfl : k = n := by omega
      have hdk : decide ((k : Int) < (k : Int)) = false := decide_eq_false (by omega)
      go_wp2
      go_ret
      refine ⟨_, rfl, own_of_cells ?_ (by rw [is_length, List.length_replicate]) (Nat.le_refl _) (by simp only [maxLen]; omega), HB.out⟩
      have := HG.out
      simpa [laidR] using this
    have hdk : decide ((k : Int) < (n : Int)) = true := decide_eq_true (by omega)
    have hkp : 0 < k := by have := HM.out; omega
    obtain ⟨L1, hL1⟩ : ∃ L1, is (List.replicate (min k (n - k)) x) = L1 := ⟨_, rfl⟩
    have HL1 := Lib.hid hL1
    obtain ⟨j, hj⟩ : ∃ j, min k (n - k) = j := ⟨_, rfl⟩
    have hl1 : L1.length = j := by rw [← hL1, is_length, List.length_replicate, hj]
    have Hl1 := Lib.hid hl1
    have HJ := Lib.hid hj
    have H1' := Lib.hid (is_one (List.replicate (min k (n - k)) x))
    rw [hL1] at H1'
    have HMin := Lib.hid (show L1.length = Nat.min k (n - k) by rw [hl1, ← hj])
    have HPos1 : Hid (∀ i v, L1[i]? = some v → wr.cell? ((⟨w.heap.size, 0, none⟩ : Addr).add i) = some v) := Lib.hid fun i v hi => by
      have hi' : i < min k (n - k) := by
        rcases Nat.lt_or_ge i L1.length with h | h
        · omega
        · rw [List.getElem?_eq_none h] at hi; cases hi
      have hb : Box wr w.heap.size 3 (laidR x k n) := HG.out
      have ho := own_of_cells (base := w.heap.size) (n := n) HG.out (by rw [is_length, List.length_append, List.length_replicate, List.length_replicate]; omega) (Nat.le_refl _) (by simp only [maxLen]; omega)
      obtain ⟨ad, hA, _, hc⟩ := (Rd.own ho).at (k := i) (u := v) (by
        rw [← hi, ← hL1]
        simp only [laidR, is, List.getElem?_map]
        rw [List.getElem?_append_left (by rw [List.length_replicate]; omega), List.getElem?_replicate, List.getElem?_replicate, if_pos (by omega), if_pos hi'])
      obtain rfl : (⟨w.heap.size, 0, none⟩ : Addr) = ad := by injection hA
      exact hc
    have HFit1 := Lib.hid (show k + L1.length ≤ (laidR x k n).length by rw [hl1, is_length, List.length_append, List.length_replicate, List.length_replicate]; omega)
    have HSp := Lib.hid (laid_more x hk2)
    rw [hL1, hj] at HSp
    generalize laidR x k n = L2 at *
    clear hL1 hj
    go_wp2_with fail
    have hnk : ¬ n = k := by omega
    have hwkj := IntWalk.i64_in ((k : Int) + (j : Int)) (by have := HJ.out; omega)
    go_region_held3 (fun w' => True) (exact trivial)
      ((first | (go_loud (refine step_copy_splice (by rfl) _ _ _ _ (by rfl) 3 Try.underlying24 hsz1 (some ⟨w.heap.size, k, none⟩) (some ⟨w.heap.size, 0, none⟩) (n - k) (n - k) k n (by rfl) (by rfl) w.heap.size k L2 3 HG.out L1 HMin.out (fun _ => ⟨rfl, _, rfl, HPos1.out⟩) HFit1.out H1'.out w.heap.size wr (Below.refl _ _).drew (Nat.le_refl _) ?_); intro w6 hg6 hb6)))
    have HJ1 := HJ.out
    simp only [goInt, hl1, hwkj]
    go_roundw
    case rel => exact ⟨_, _, _, _, _, _, _, _, _, _, _, _, _, _, ⟨k + j, by omega, by omega, rfl, by rw [← HSp.out]; exact hg6.out, HB.out.trans hb6⟩, rfl⟩
    case measure => first | (simp [intOf]; done) | (simp [intOf]; omega)
set_option maxRecDepth 100000 in
theorem lcopied_any (A : Option Addr) (n cap : Nat) (ps : List Int) (h0 h1 h2 : Int) (w : World) (hm : n ≤ 64) (hn : ps.length = n) (hp : 0 < n) (hr : Rd w w.heap.size A (is ps)) :
    Calls Try.prog 28 #[ppv A n cap h0 h1 h2] w fun e w' => ∃ g c, e = .returned (ppv (some ⟨g, 0, none⟩) n c h0 h1 h2) ∧ w'.ownsRow w.heap.size 3 1 (.slice (some ⟨g, 0, none⟩) n c) n (is ps) ∧ Below w.heap.size w w' := by
  have HC := Lib.hid fun w' (h : Below w.heap.size w w') => sclone_any A n cap ps w' hm hn hp ((hr.below h).more h.size)
  have hbx := Box.new w 27 (plcs A n cap h0 h1 h2)
  have hbx2 := Box.new (w.alloc (.cells (plcs A n cap h0 h1 h2).toArray 27)) 27 (plcs none 0 0 0 0 0)
  have hbx1 := hbx.alloc (.cells (plcs none 0 0 0 0 0).toArray 27)
  have hb0 : Below w.heap.size w ((w.alloc (.cells (plcs A n cap h0 h1 h2).toArray 27)).alloc (.cells (plcs none 0 0 0 0 0).toArray 27)) := ((Below.refl _ _).alloc (Nat.le_refl _) _).alloc (by simp) _
  rw [show (w.alloc (.cells (plcs A n cap h0 h1 h2).toArray 27)).heap.size = w.heap.size + 1 by simp] at hbx2
  clear hbx hr
  go_enter Try.func28, Try.ntmps28
  go_wp2_with fail
  generalize World.alloc _ _ = w0 at hbx1 hbx2 hb0 ⊢
  obtain ⟨a0, a1, a2, a3, al⟩ := hbx1.pool
  have HB0 := Lib.hid (And.intro hbx1 (And.intro hbx2 hb0))
  clear hbx1 hbx2 hb0
  go_wp2_with fail
  refine (HC.out _ HB0.out.2.2).mono ?_
  rintro e w1 ⟨g, c, rfl, hown, hb⟩
  have hlt := HB0.out.1.lt
  have hlt2 := HB0.out.2.1.lt
  have f1 := (HB0.out.1.on hb).frozen 0
  have x1 := (HB0.out.1.on hb).set 0 (.slice (some ⟨g, 0, none⟩) n c)
  have hg1 := pgrown_cell w1 ⟨w.heap.size, 0, none⟩ (.slice (some ⟨g, 0, none⟩) n c)
  have x2 := (HB0.out.2.1.on hb).grown hg1 (by simp)
  have hgb := (own_at hown hp)
  obtain ⟨g', hgA, hgw, hg⟩ := hgb
  obtain rfl : g = g' := by injection hgA with h; injection h
  have o2 := own_grown hown hg1 (by simp; omega)
  have HB2 := Lib.hid ((bthen HB0.out.2.2 hb).grown hg1 (bthen HB0.out.2.2 hb).size (fun k hk => by injection hk with hk; rw [← hk]; exact Nat.le_refl _))
  have ex := (HB0.out.1.on hb).cell 0
  obtain ⟨e0, e1, e2, e3, el⟩ := Box.pool x1
  have HO2 := Lib.hid (own_base0 o2 HB0.out.2.2.size)
  have HG := Lib.hid (Nat.le_trans (Nat.succ_le_of_lt hlt2) hgw)
  clear a0 a1 a2 a3 al hb hown hg1 HC o2 HB0 x1 hgA hgw hg el
  go_wp2_with ((with_reducible refine wpList_pool_store (o := ⟨none, .store _ _ _, _, _, _, _⟩) rfl _ _ rfl _ (some ⟨g, 0, none⟩) none n 0 c 0 h0 h1 h2 0 0 0 rfl rfl x2 ?_); intro w4 x4 hg4; have HF := Lib.hid (HB2.out.grown hg4 HB2.out.size (fun k hk => by injection hk with hk; omega)); have HO4 := Lib.hid (own_grown HO2.out hg4 (by have := HG.out; omega)); obtain ⟨r0, r1, r2, r3, rl⟩ := Box.pool x4; clear hg4 x4)
  exact bodyPost_ret (v := ppv (some ⟨g, 0, none⟩) n c h0 h1 h2) (by simp [results, Try.results28, go_sem, r0, r1, r2, r3]) rfl ⟨g, c, rfl, HO4.out, HF.out⟩
end Go.Proofs.Ytbhcemipjfdemaa

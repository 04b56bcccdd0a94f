/-
  The document's Do of layer 17.
-/
import Derived.Test.YtjjomfpkdbfhdaaSnK
namespace Go.Proofs.Ytjjomfpkdbfhdaa
open Go.RowKit Word Snap
set_option linter.unusedVariables false

theorem elemL : Elem Try.prog 27 31 (.slice none 0 0) 1 24 := Elem.of Try.underlying27 (by kernel_rfl) rfl (by decide)
theorem zero_log (w : World) : (zeroValue 29).run Try.prog w = .ok (.agg [Value.slice none 0 0, .int .i64 0].toArray) w :=
  (zero_of_info (P := Try.prog) (t := 29) (v := .agg [Value.slice none 0 0, .int .i64 0].toArray) (n := 2) (by kernel_rfl)).1 w
theorem ovs_length (L : List Ov) : (ovs L).length = L.length := by simp [ovs]
theorem ovs_snoc (L : List Ov) (x : Ov) : ovs L ++ [x.v] = ovs (L ++ [x]) := by simp [ovs]
theorem ovs_one (L : List Ov) : ∀ u ∈ ovs L, u.oneCell' = true := by
  intro u hu
  obtain ⟨x, _, rfl⟩ := List.mem_map.1 hu
  rfl
/-- what Do has in hand -/
structure DoW (w wr : World) (A : Option Addr) (n cap : Nat) (g : Int) (x : Av) : Prop where
  lg : Box wr w.heap.size 29 [.slice A n cap, .int .i64 g]
  ac : Box wr (w.heap.size + 1) 33 (acs x)
  rs : Box wr (w.heap.size + 2) 29 [.slice none 0 0, .int .i64 0]
  below : Below w.heap.size w wr
  far : w.heap.size + 2 < wr.heap.size
theorem doW_new {w w1 w2 w3 : World} {A : Option Addr} {n cap : Nat} {g : Int} {x : Av} (x1 : Box w1 w.heap.size 29 [.slice A n cap, .int .i64 g]) (b1 : Below w.heap.size w w1) (s1 : w1.heap.size = w.heap.size + 1) (x2 : Box w2 w1.heap.size 33 (acs x)) (b2 : Below w1.heap.size w1 w2) (s2 : w2.heap.size = w1.heap.size + 1)
    (x3 : Box w3 w2.heap.size 29 [.slice none 0 0, .int .i64 0]) (b3 : Below w2.heap.size w2 w3) (s3 : w3.heap.size = w2.heap.size + 1) : DoW w w3 A n cap g x := by
  refine ⟨(x1.on b2).on b3, ?_, ?_, bthen (bthen b1 b2) b3, by omega⟩
  · rw [← s1]
    exact x2.on b3
  · rw [show w.heap.size + 2 = w2.heap.size by omega]
    exact x3
theorem do_end {w w8 w9 : World} {A : Option Addr} {n cap g9 c9 : Nat} {g : Int} {x : Av} {ys : List Value} (D : DoW w w8 A n cap g x) (B9 : Below w8.heap.size w8 w9) (ho : w9.ownsRow w8.heap.size 31 1 (.slice (some ⟨g9, 0, none⟩) (n + 1) c9) (n + 1) ys) :
    ((w9.setCell ⟨w.heap.size + 1 + 1, 0, none⟩ (.slice (some ⟨g9, 0, none⟩) (n + 1) c9)).setCell ⟨w.heap.size + 1 + 1, 1, none⟩ (.int .i64 g)).ownsRow w.heap.size 31 1 (.slice (some ⟨g9, 0, none⟩) (n + 1) c9) (n + 1) ys ∧ Below w.heap.size w ((w9.setCell ⟨w.heap.size + 1 + 1, 0, none⟩ (.slice (some ⟨g9, 0, none⟩) (n + 1) c9)).setCell ⟨w.heap.size + 1 + 1, 1, none⟩ (.int .i64 g)) ∧
    Box ((w9.setCell ⟨w.heap.size + 1 + 1, 0, none⟩ (.slice (some ⟨g9, 0, none⟩) (n + 1) c9)).setCell ⟨w.heap.size + 1 + 1, 1, none⟩ (.int .i64 g)) (w.heap.size + 1 + 1) 29 [.slice (some ⟨g9, 0, none⟩) (n + 1) c9, .int .i64 g] := by
  have hf := D.far
  have hb := D.below.size
  have hl := ho.lt g9 rfl
  refine ⟨?_, ((bthen D.below B9).setCell (by show w.heap.size ≤ w.heap.size + 1 + 1; omega) _).setCell (by show w.heap.size ≤ w.heap.size + 1 + 1; omega) _, ((D.rs.on B9).set 0 _).set 1 _⟩
  refine own_base0 (own_same ho fun k hk => ?_) hb
  obtain rfl : g9 = k := by injection hk
  exact (Below.heap_setCell _ _ _ _ (by show g9 ≠ w.heap.size + 1 + 1; omega)).trans (Below.heap_setCell _ _ _ _ (by show g9 ≠ w.heap.size + 1 + 1; omega))
set_option maxRecDepth 100000 in
set_option maxHeartbeats 4000000 in
theorem rdo_even (A : Option Addr) (n cap : Nat) (L : List Ov) (g : Nat) (x : Av) (w : World) (hl : L.length = n) (hn : n ≤ 1000) (hr : Rd w w.heap.size A (ovs L)) (hk : x.kind ≤ 255) (he : x.kind % 2 = 0) :
    Calls Try.prog 12 #[logv A n cap g, .agg (acs x).toArray] w fun e w' => ∃ g9 c9, e = .returned (logv (some ⟨g9, 0, none⟩) (n + 1) c9 g) ∧ w'.ownsRow w.heap.size 31 1 (.slice (some ⟨g9, 0, none⟩) (n + 1) c9) (n + 1) (ovs (L ++ [x.ov])) ∧ Below w.heap.size w w' := by
  have HL := Lib.hid (And.intro hl hr)
  have HX := Lib.hid (ovs_snoc L x.ov)
  have HC := Lib.hid (show (ovs L).length = n * 1 by rw [ovs_length, hl, Nat.mul_one])
  have H1c := Lib.hid (ovs_one L)
  have hkb : (((x.kind : Nat) : Int) % 2 == 0) = true := by simp; omega
  have hk0 : (0 : Int) ≤ ((x.kind : Nat) : Int) := by omega
  have hk1 : ((x.kind : Nat) : Int) ≤ 255 := by omega
  clear hl hr
  obtain ⟨xk, ⟨xo, xA, xc⟩, xn⟩ := x
  have H1d : Hid (∀ u ∈ [Value.slice xA xo.length xc], u.oneCell' = true) := Lib.hid (by simp [Value.oneCell'])
  have HA : Hid (acs ⟨xk, ⟨xo, xA, xc⟩, xn⟩ = [.int .u8 xk, .slice xA xo.length xc, .int .i64 xn]) := Lib.hid rfl
  show Calls Try.prog 12 #[logv A n cap g, .agg #[.int .u8 xk, .slice xA xo.length xc, .int .i64 xn]] w _
  have HX : Hid (ovs L ++ [Value.slice xA xo.length xc] = ovs (L ++ [⟨xo, xA, xc⟩])) := HX
  rw [← HX.out]
  clear HX
  generalize xo.length = xl at *
  generalize ovs L = C at *
  go_enter Try.func12, Try.ntmps12
  go_wp2_with (first
    | ((with_reducible refine wpList_box_box _ (o := ⟨some 2, .box _ _, _, _, _, _⟩) rfl _ _ rfl [.slice A n cap, .int .i64 (g : Int)] rfl ?_); intro w1 x1 hB1 hs1)
    | ((with_reducible refine wpList_box_box _ (o := ⟨some 3, .box _ _, _, _, _, _⟩) rfl _ _ rfl [.int .u8 (xk : Int), .slice xA xl xc, .int .i64 xn] rfl ?_); intro w2 x2 hB2 hs2)
    | ((with_reducible refine wpList_alloc_box _ (o := ⟨some 4, .alloc _, _, _, _, _⟩) rfl _ rfl [.slice none 0 0, .int .i64 0] zero_log ?_); go_loud (intro w8 x3 hB3 hs3; have D8 : DoW w w8 A n cap g ⟨xk, ⟨xo, xA, xc⟩, xn⟩ := doW_new x1 hB1 hs1 (by rw [HA.out]; exact x2) hB2 hs2 x3 hB3 hs3; rw [hs2, hs1]; have HD := Lib.hid D8; have c0 : w8.cell? ⟨w.heap.size, 0, none⟩ = some (.slice A n cap) := D8.lg.cell 0; have c1 : w8.cell? ⟨w.heap.size, 1, none⟩ = some (.int .i64 (g : Int)) := D8.lg.cell 1; have a0 : w8.cell? ⟨w.heap.size + 1, 0, none⟩ = some (.int .u8 xk) := (D8.ac.cell 0); have a1 : w8.cell? ⟨w.heap.size + 1, 1, none⟩ = some (.slice xA xl xc) := (D8.ac.cell 1).trans (by rw [HA.out]; rfl); clear D8 x1 hB1 hs1 x2 hB2 hs2 x3 hB3 hs3))
    | fail)
  have hf8 := HD.out.far
  have SO : Hid (∀ w', Fr (fun k => k = w.heap.size + 2) w8 w' → w'.cell? ⟨w.heap.size, 0, none⟩ = some (.slice A n cap) ∧ w'.cell? ⟨w.heap.size, 1, none⟩ = some (.int .i64 (g : Int)) ∧ w'.cell? ⟨w.heap.size + 1, 1, none⟩ = some (.slice xA xl xc)) := Lib.hid fun w' h => ⟨(h.cell (a := ⟨w.heap.size, 0, none⟩) HD.out.lg.lt (by show ¬ w.heap.size = w.heap.size + 2; omega)).trans c0, (h.cell (a := ⟨w.heap.size, 1, none⟩) HD.out.lg.lt (by show ¬ w.heap.size = w.heap.size + 2; omega)).trans c1, (h.cell (a := ⟨w.heap.size + 1, 1, none⟩) HD.out.ac.lt (by show ¬ w.heap.size + 1 = w.heap.size + 2; omega)).trans a1⟩
  have HS2 : Hid (∀ w', Below w8.heap.size w8 w' → w'.cell? ⟨w.heap.size + 2, 0, none⟩ = some (.slice none 0 0) ∧ w'.cell? ⟨w.heap.size + 2, 1, none⟩ = some (.int .i64 0) ∧ w'.frozen? ⟨w.heap.size + 2, 0, none⟩ = false ∧ w'.frozen? ⟨w.heap.size + 2, 1, none⟩ = false) := Lib.hid fun w' h => by
    have hx := HD.out.rs.on h
    exact ⟨hx.cell 0, hx.cell 1, hx.frozen 0, hx.frozen 1⟩
  have RD : Hid (∀ w', Below w8.heap.size w8 w' → Rd w' w8.heap.size A C) := Lib.hid fun w' h => ((HL.out.2.below HD.out.below).more HD.out.below.size).below h
  have OW := Lib.hid fun (W : World) (h : w8.heap.size ≤ W.heap.size) => (World.ownsRow_lit (e := 31) (size := 1) W #[] 0 h (by decide) (by simp) : (W.alloc (.cells #[] 31)).ownsRow w8.heap.size 31 1 (.slice (some ⟨W.heap.size, 0, none⟩) 0 0) 0 [])
  have BS := Lib.hid (Below.refl w8.heap.size w8).drew
  clear hkb hk0 hk1 a0
  go_wp2_with fail
  have hsz1 : (w8.alloc (.cells #[] 31)).heap.size = w8.heap.size + 1 := by simp
  have hsz2 : (w8.alloc (.cells #[Value.slice xA xl xc] 31)).heap.size = w8.heap.size + 1 := by simp
  have XA : Hid (Box ((w8.alloc (.cells #[] 31)).alloc (.cells #[Value.slice xA xl xc] 31)).drew (w8.heap.size + 1) 31 [Value.slice xA xl xc]) := Lib.hid (by
    have := Box.new (w8.alloc (.cells #[] 31)) 31 [Value.slice xA xl xc]
    rwa [hsz1] at this)
  have XB : Hid (Box ((w8.alloc (.cells #[Value.slice xA xl xc] 31)).alloc (.cells #[] 31)).drew w8.heap.size 31 [Value.slice xA xl xc]) := Lib.hid
    ((Box.new w8 31 [Value.slice xA xl xc]).same (Below.heap_alloc _ _ _ (by rw [hsz2]; omega)))
  have OWB : Hid (((w8.alloc (.cells #[Value.slice xA xl xc] 31)).alloc (.cells #[] 31)).ownsRow w8.heap.size 31 1 (.slice (some ⟨w8.heap.size + 1, 0, none⟩) 0 0) 0 []) := Lib.hid (by
    have := OW.out (w8.alloc (.cells #[Value.slice xA xl xc] 31)) (by rw [hsz2]; omega)
    rwa [hsz2] at this)
  clear hsz1 hsz2
  go_region_held3 (fun w' => w'.cell? ⟨w.heap.size, 0, none⟩ = some (.slice A n cap) ∧ w'.cell? ⟨w.heap.size, 1, none⟩ = some (.int .i64 (g : Int)) ∧ w'.cell? ⟨w.heap.size + 1, 1, none⟩ = some (.slice xA xl xc))
          ((refine SO.out _ ?_; repeat (first | exact Fr.refl _ | exact Fr.of_below B9 | exact Fr.of_below B4 | refine Fr.drew ?_ | refine Fr.alloc ?_ _ | refine Fr.setCell ?_ _ _ rfl)))
          (first
            | ((refine step_append_rd _ (by rfl) _ _ _ (by rfl) w8.heap.size 31 _ 1 24 elemL (.slice (some ⟨w8.heap.size, 0, none⟩) 0 0) 0 [] (by rfl) (OW.out w8.drew (Nat.le_refl _)) w8.heap.size A n cap C (by rfl) HC.out (RD.out _ (below_alloc1 BS.out)) H1c.out (by unfold maxLen; omega) (by omega) (by simp <;> omega) ?_); intro v4 w4 hown4 hg4; obtain ⟨A4, k4, rfl⟩ := own_slice hown4; simp only [Nat.zero_add, List.nil_append] at hown4 ⊢; have B4 : Below w8.heap.size w8 w4 := (below_alloc1 BS.out).grown hg4 (by simp <;> omega) (fun k hk => ((OW.out w8.drew (Nat.le_refl _)).lt k hk).1))
            | ((refine step_append_rd _ (by rfl) _ _ _ (by rfl) w8.heap.size 31 _ 1 24 elemL (.slice (some ⟨w8.heap.size, 0, none⟩) 0 0) 0 [] (by rfl) ((OW.out w8.drew (Nat.le_refl _)).alloc (.cells #[Value.slice xA xl xc] 31)) w8.heap.size A n cap C (by rfl) HC.out (RD.out _ (below_alloc1 (below_alloc1 BS.out))) H1c.out (by unfold maxLen; omega) (by omega) (by simp <;> omega) ?_); intro v4 w4 hown4 hg4; obtain ⟨A4, k4, rfl⟩ := own_slice hown4; simp only [Nat.zero_add, List.nil_append] at hown4 ⊢; have B4 : Below w8.heap.size w8 w4 := (below_alloc1 (below_alloc1 BS.out)).grown hg4 (by simp <;> omega) (fun k hk => (((OW.out w8.drew (Nat.le_refl _)).alloc (.cells #[Value.slice xA xl xc] 31)).lt k hk).1); go_loud (have X4 := XA.out.grown (g := w8.heap.size) hg4 (by omega)))
            | ((refine step_append_rd _ (by rfl) _ _ _ (by rfl) w8.heap.size 31 _ 1 24 elemL (.slice (some ⟨w8.heap.size + 1, 0, none⟩) 0 0) 0 [] (by rfl) (OWB.out) w8.heap.size A n cap C (by rfl) HC.out (RD.out _ (below_alloc1 (below_alloc1 BS.out))) H1c.out (by unfold maxLen; omega) (by omega) (by simp <;> omega) ?_); intro v4 w4 hown4 hg4; obtain ⟨A4, k4, rfl⟩ := own_slice hown4; simp only [Nat.zero_add, List.nil_append] at hown4 ⊢; have B4 : Below w8.heap.size w8 w4 := (below_alloc1 (below_alloc1 BS.out)).grown hg4 (by simp <;> omega) (fun k hk => ((OWB.out).lt k hk).1); go_loud (have Y4 := XB.out.grown (g := w8.heap.size + 1) hg4 (by omega)))
            | ((refine step_append_big _ (by rfl) _ _ _ (by rfl) w8.heap.size 31 _ 1 24 elemL (.slice A4 n k4) n C (by rfl) (hown4.alloc (.cells #[Value.slice xA xl xc] 31)) w4.heap.size [Value.slice xA xl xc] (by rfl) (by rfl) (fun j u hu => by rw [Addr.add_mid, Nat.zero_add]; exact ((Box.new w4 31 [Value.slice xA xl xc]).cell j).trans hu) H1d.out (by unfold maxLen; omega) (by omega) (by have := B4.size; simp <;> omega) ?_); intro g9 c9 w9 hown9 hg9 hat9; have B9 : Below w8.heap.size w8 w9 := (below_alloc1 B4).grown hg9 (by have := B4.size; simp <;> omega) (fun k hk => (((hown4.alloc (.cells #[Value.slice xA xl xc] 31))).lt k hk).1); have HRs := HS2.out w9 B9; have q0 := HRs.1; have q1 := HRs.2.1; have q2 := HRs.2.2.1; have q3 := HRs.2.2.2)
            | ((refine step_append_big _ (by rfl) _ _ _ (by rfl) w8.heap.size 31 _ 1 24 elemL (.slice A4 n k4) n C (by rfl) hown4 (w8.heap.size + 1) [Value.slice xA xl xc] (by rfl) (by rfl) (fun j u hu => by rw [Addr.add_mid, Nat.zero_add]; exact (X4.cell j).trans hu) H1d.out (by unfold maxLen; omega) (by omega) (by have := B4.size; simp <;> omega) ?_); intro g9 c9 w9 hown9 hg9 hat9; have B9 : Below w8.heap.size w8 w9 := B4.grown hg9 (by have := B4.size; simp <;> omega) (fun k hk => ((hown4).lt k hk).1); have HRs := HS2.out w9 B9; have q0 := HRs.1; have q1 := HRs.2.1; have q2 := HRs.2.2.1; have q3 := HRs.2.2.2)
            | ((refine step_append_big _ (by rfl) _ _ _ (by rfl) w8.heap.size 31 _ 1 24 elemL (.slice A4 n k4) n C (by rfl) hown4 w8.heap.size [Value.slice xA xl xc] (by rfl) (by rfl) (fun j u hu => by rw [Addr.add_mid, Nat.zero_add]; exact (Y4.cell j).trans hu) H1d.out (by unfold maxLen; omega) (by omega) (by have := B4.size; simp <;> omega) ?_); intro g9 c9 w9 hown9 hg9 hat9; have B9 : Below w8.heap.size w8 w9 := B4.grown hg9 (by have := B4.size; simp <;> omega) (fun k hk => ((hown4).lt k hk).1); have HRs := HS2.out w9 B9; have q0 := HRs.1; have q1 := HRs.2.1; have q2 := HRs.2.2.1; have q3 := HRs.2.2.2)
            | fail)
  all_goals
    have HW := Lib.hid (do_end HD.out B9 hown9)
    clear q0 q1 q2 q3 HRs hat9 hg9 hown9 B9 c0 c1 a1
    generalize World.setCell (World.setCell w9 _ _) _ _ = w10 at HW ⊢
    have k0 : w10.cell? ⟨w.heap.size + 1 + 1, 0, none⟩ = some (.slice (some ⟨g9, 0, none⟩) (n + 1) c9) := HW.out.2.2.cell 0
    have k1 : w10.cell? ⟨w.heap.size + 1 + 1, 1, none⟩ = some (.int .i64 (g : Int)) := HW.out.2.2.cell 1
    go_wp2
    exact bodyPost_ret (v := logv (some ⟨g9, 0, none⟩) (n + 1) c9 g) (by simp [results, Try.results12, go_sem, k0, k1]) rfl ⟨g9, c9, rfl, HW.out.1, HW.out.2.1⟩
set_option maxRecDepth 100000 in
set_option maxHeartbeats 4000000 in
theorem rdo_odd (A : Option Addr) (n cap : Nat) (g : Nat) (x : Av) (w : World) (hn : n ≤ 1000) (hk : x.kind ≤ 255) (he : ¬ x.kind % 2 = 0) :
    Calls Try.prog 12 #[logv A n cap g, .agg (acs x).toArray] w fun e w' => e = .returned (logv A n cap ((max g (min x.n (n : Int)).toNat : Nat) : Int)) ∧ Below w.heap.size w w' := by
  have hkb : (((x.kind : Nat) : Int) % 2 == 0) = false := by simp; omega
  have hk0 : (0 : Int) ≤ ((x.kind : Nat) : Int) := by omega
  have hk1 : ((x.kind : Nat) : Int) ≤ 255 := by omega
  obtain ⟨xk, ⟨xo, xA, xc⟩, xn⟩ := x
  have HA : Hid (acs ⟨xk, ⟨xo, xA, xc⟩, xn⟩ = [.int .u8 xk, .slice xA xo.length xc, .int .i64 xn]) := Lib.hid rfl
  show Calls Try.prog 12 #[logv A n cap g, .agg #[.int .u8 xk, .slice xA xo.length xc, .int .i64 xn]] w fun e w' => e = .returned (logv A n cap ((max g (min xn (n : Int)).toNat : Nat) : Int)) ∧ Below w.heap.size w w'
  generalize xo.length = xl at *
  by_cases h1 : (n : Int) < xn
  · skip
    by_cases h2 : (g : Int) < (n : Int)
    · have HE := Lib.hid (show ((max g (min xn (n : Int)).toNat : Nat) : Int) = ((n : Int)) by omega)
      have hb1 : ((n : Int) < xn) = True := eq_true (by omega)
      have hb2 : (g < n) = True := eq_true (by omega)
      have hd1 : decide ((n : Int) < xn) = true := decide_eq_true (by omega)
      have hd2 : decide (g < n) = true := decide_eq_true (by omega)
      clear h1 h2
      go_enter Try.func12, Try.ntmps12
      go_wp2_with (first
        | ((with_reducible refine wpList_box_box _ (o := ⟨some 2, .box _ _, _, _, _, _⟩) rfl _ _ rfl [.slice A n cap, .int .i64 (g : Int)] rfl ?_); intro w1 x1 hB1 hs1)
        | ((with_reducible refine wpList_box_box _ (o := ⟨some 3, .box _ _, _, _, _, _⟩) rfl _ _ rfl [.int .u8 (xk : Int), .slice xA xl xc, .int .i64 xn] rfl ?_); intro w2 x2 hB2 hs2)
        | ((with_reducible refine wpList_alloc_box _ (o := ⟨some 4, .alloc _, _, _, _, _⟩) rfl _ rfl [.slice none 0 0, .int .i64 0] zero_log ?_); go_loud (intro w8 x3 hB3 hs3; have D8 : DoW w w8 A n cap g ⟨xk, ⟨xo, xA, xc⟩, xn⟩ := doW_new x1 hB1 hs1 (by rw [HA.out]; exact x2) hB2 hs2 x3 hB3 hs3; rw [hs2, hs1]; have HD := Lib.hid D8; have c0 : w8.cell? ⟨w.heap.size, 0, none⟩ = some (.slice A n cap) := D8.lg.cell 0; have c1 : w8.cell? ⟨w.heap.size, 1, none⟩ = some (.int .i64 (g : Int)) := D8.lg.cell 1; have f1 : w8.frozen? ⟨w.heap.size, 1, none⟩ = false := D8.lg.frozen 1; have a0 : w8.cell? ⟨w.heap.size + 1, 0, none⟩ = some (.int .u8 xk) := (D8.ac.cell 0); have a2 : w8.cell? ⟨w.heap.size + 1, 2, none⟩ = some (.int .i64 xn) := (D8.ac.cell 2).trans (by rw [HA.out]; rfl); have r0 : w8.cell? ⟨w.heap.size + 1 + 1, 0, none⟩ = some (.slice none 0 0) := D8.rs.cell 0; have r1 : w8.cell? ⟨w.heap.size + 1 + 1, 1, none⟩ = some (.int .i64 0) := D8.rs.cell 1; have r2 : w8.frozen? ⟨w.heap.size + 1 + 1, 0, none⟩ = false := D8.rs.frozen 0; have r3 : w8.frozen? ⟨w.heap.size + 1 + 1, 1, none⟩ = false := D8.rs.frozen 1; clear D8 x1 hB1 hs1 x2 hB2 hs2 x3 hB3 hs3))
        | fail)
      have hx := ((HD.out.rs.same (Below.heap_setCell w8 ⟨w.heap.size, 1, none⟩ (.int .i64 ((n : Int))) (w.heap.size + 2) (by show w.heap.size + 2 ≠ w.heap.size; omega))).set 0 (.slice A n cap)).set 1 (.int .i64 ((n : Int)))
      have hb := ((HD.out.below.setCell (p := ⟨w.heap.size, 1, none⟩) (Nat.le_refl _) (.int .i64 ((n : Int)))).setCell (p := ⟨w.heap.size + 1 + 1, 0, none⟩) (by show w.heap.size ≤ w.heap.size + 1 + 1; omega) (.slice A n cap)).setCell (p := ⟨w.heap.size + 1 + 1, 1, none⟩) (by show w.heap.size ≤ w.heap.size + 1 + 1; omega) (.int .i64 ((n : Int)))
      clear c0 c1 f1 a0 a2 r0 r1 r2 r3
      generalize World.setCell (World.setCell _ _ _) _ _ = w10 at hx hb ⊢
      have k0 : w10.cell? ⟨w.heap.size + 1 + 1, 0, none⟩ = some (.slice A n cap) := hx.cell 0
      have k1 : w10.cell? ⟨w.heap.size + 1 + 1, 1, none⟩ = some (.int .i64 ((n : Int))) := hx.cell 1
      exact bodyPost_ret (v := logv A n cap ((n : Int))) (by simp [results, Try.results12, go_sem, k0, k1]) rfl ⟨by rw [HE.out], hb⟩
    · have HE := Lib.hid (show ((max g (min xn (n : Int)).toNat : Nat) : Int) = (g : Int) by omega)
      have hb1 : ((n : Int) < xn) = True := eq_true (by omega)
      have hb2 : (g < n) = False := eq_false (by omega)
      have hd1 : decide ((n : Int) < xn) = true := decide_eq_true (by omega)
      have hd2 : decide (g < n) = false := decide_eq_false (by omega)
      clear h1 h2
      go_enter Try.func12, Try.ntmps12
      go_wp2_with (first
        | ((with_reducible refine wpList_box_box _ (o := ⟨some 2, .box _ _, _, _, _, _⟩) rfl _ _ rfl [.slice A n cap, .int .i64 (g : Int)] rfl ?_); intro w1 x1 hB1 hs1)
        | ((with_reducible refine wpList_box_box _ (o := ⟨some 3, .box _ _, _, _, _, _⟩) rfl _ _ rfl [.int .u8 (xk : Int), .slice xA xl xc, .int .i64 xn] rfl ?_); intro w2 x2 hB2 hs2)
        | ((with_reducible refine wpList_alloc_box _ (o := ⟨some 4, .alloc _, _, _, _, _⟩) rfl _ rfl [.slice none 0 0, .int .i64 0] zero_log ?_); go_loud (intro w8 x3 hB3 hs3; have D8 : DoW w w8 A n cap g ⟨xk, ⟨xo, xA, xc⟩, xn⟩ := doW_new x1 hB1 hs1 (by rw [HA.out]; exact x2) hB2 hs2 x3 hB3 hs3; rw [hs2, hs1]; have HD := Lib.hid D8; have c0 : w8.cell? ⟨w.heap.size, 0, none⟩ = some (.slice A n cap) := D8.lg.cell 0; have c1 : w8.cell? ⟨w.heap.size, 1, none⟩ = some (.int .i64 (g : Int)) := D8.lg.cell 1; have f1 : w8.frozen? ⟨w.heap.size, 1, none⟩ = false := D8.lg.frozen 1; have a0 : w8.cell? ⟨w.heap.size + 1, 0, none⟩ = some (.int .u8 xk) := (D8.ac.cell 0); have a2 : w8.cell? ⟨w.heap.size + 1, 2, none⟩ = some (.int .i64 xn) := (D8.ac.cell 2).trans (by rw [HA.out]; rfl); have r0 : w8.cell? ⟨w.heap.size + 1 + 1, 0, none⟩ = some (.slice none 0 0) := D8.rs.cell 0; have r1 : w8.cell? ⟨w.heap.size + 1 + 1, 1, none⟩ = some (.int .i64 0) := D8.rs.cell 1; have r2 : w8.frozen? ⟨w.heap.size + 1 + 1, 0, none⟩ = false := D8.rs.frozen 0; have r3 : w8.frozen? ⟨w.heap.size + 1 + 1, 1, none⟩ = false := D8.rs.frozen 1; clear D8 x1 hB1 hs1 x2 hB2 hs2 x3 hB3 hs3))
        | fail)
      have hx := (HD.out.rs.set 0 (.slice A n cap)).set 1 (.int .i64 (g : Int))
      have hb := (HD.out.below.setCell (p := ⟨w.heap.size + 1 + 1, 0, none⟩) (by show w.heap.size ≤ w.heap.size + 1 + 1; omega) (.slice A n cap)).setCell (p := ⟨w.heap.size + 1 + 1, 1, none⟩) (by show w.heap.size ≤ w.heap.size + 1 + 1; omega) (.int .i64 (g : Int))
      clear c0 c1 f1 a0 a2 r0 r1 r2 r3
      generalize World.setCell (World.setCell _ _ _) _ _ = w10 at hx hb ⊢
      have k0 : w10.cell? ⟨w.heap.size + 1 + 1, 0, none⟩ = some (.slice A n cap) := hx.cell 0
      have k1 : w10.cell? ⟨w.heap.size + 1 + 1, 1, none⟩ = some (.int .i64 (g : Int)) := hx.cell 1
      exact bodyPost_ret (v := logv A n cap (g : Int)) (by simp [results, Try.results12, go_sem, k0, k1]) rfl ⟨by rw [HE.out], hb⟩
  · skip
    by_cases h2 : (g : Int) < xn
    · have HE := Lib.hid (show ((max g (min xn (n : Int)).toNat : Nat) : Int) = (xn) by omega)
      have hb1 : ((n : Int) < xn) = False := eq_false (by omega)
      have hb2 : ((g : Int) < xn) = True := eq_true (by omega)
      have hd1 : decide ((n : Int) < xn) = false := decide_eq_false (by omega)
      have hd2 : decide ((g : Int) < xn) = true := decide_eq_true (by omega)
      clear h1 h2
      go_enter Try.func12, Try.ntmps12
      go_wp2_with (first
        | ((with_reducible refine wpList_box_box _ (o := ⟨some 2, .box _ _, _, _, _, _⟩) rfl _ _ rfl [.slice A n cap, .int .i64 (g : Int)] rfl ?_); intro w1 x1 hB1 hs1)
        | ((with_reducible refine wpList_box_box _ (o := ⟨some 3, .box _ _, _, _, _, _⟩) rfl _ _ rfl [.int .u8 (xk : Int), .slice xA xl xc, .int .i64 xn] rfl ?_); intro w2 x2 hB2 hs2)
        | ((with_reducible refine wpList_alloc_box _ (o := ⟨some 4, .alloc _, _, _, _, _⟩) rfl _ rfl [.slice none 0 0, .int .i64 0] zero_log ?_); go_loud (intro w8 x3 hB3 hs3; have D8 : DoW w w8 A n cap g ⟨xk, ⟨xo, xA, xc⟩, xn⟩ := doW_new x1 hB1 hs1 (by rw [HA.out]; exact x2) hB2 hs2 x3 hB3 hs3; rw [hs2, hs1]; have HD := Lib.hid D8; have c0 : w8.cell? ⟨w.heap.size, 0, none⟩ = some (.slice A n cap) := D8.lg.cell 0; have c1 : w8.cell? ⟨w.heap.size, 1, none⟩ = some (.int .i64 (g : Int)) := D8.lg.cell 1; have f1 : w8.frozen? ⟨w.heap.size, 1, none⟩ = false := D8.lg.frozen 1; have a0 : w8.cell? ⟨w.heap.size + 1, 0, none⟩ = some (.int .u8 xk) := (D8.ac.cell 0); have a2 : w8.cell? ⟨w.heap.size + 1, 2, none⟩ = some (.int .i64 xn) := (D8.ac.cell 2).trans (by rw [HA.out]; rfl); have r0 : w8.cell? ⟨w.heap.size + 1 + 1, 0, none⟩ = some (.slice none 0 0) := D8.rs.cell 0; have r1 : w8.cell? ⟨w.heap.size + 1 + 1, 1, none⟩ = some (.int .i64 0) := D8.rs.cell 1; have r2 : w8.frozen? ⟨w.heap.size + 1 + 1, 0, none⟩ = false := D8.rs.frozen 0; have r3 : w8.frozen? ⟨w.heap.size + 1 + 1, 1, none⟩ = false := D8.rs.frozen 1; clear D8 x1 hB1 hs1 x2 hB2 hs2 x3 hB3 hs3))
        | fail)
      have hx := ((HD.out.rs.same (Below.heap_setCell w8 ⟨w.heap.size, 1, none⟩ (.int .i64 (xn)) (w.heap.size + 2) (by show w.heap.size + 2 ≠ w.heap.size; omega))).set 0 (.slice A n cap)).set 1 (.int .i64 (xn))
      have hb := ((HD.out.below.setCell (p := ⟨w.heap.size, 1, none⟩) (Nat.le_refl _) (.int .i64 (xn))).setCell (p := ⟨w.heap.size + 1 + 1, 0, none⟩) (by show w.heap.size ≤ w.heap.size + 1 + 1; omega) (.slice A n cap)).setCell (p := ⟨w.heap.size + 1 + 1, 1, none⟩) (by show w.heap.size ≤ w.heap.size + 1 + 1; omega) (.int .i64 (xn))
      clear c0 c1 f1 a0 a2 r0 r1 r2 r3
      generalize World.setCell (World.setCell _ _ _) _ _ = w10 at hx hb ⊢
      have k0 : w10.cell? ⟨w.heap.size + 1 + 1, 0, none⟩ = some (.slice A n cap) := hx.cell 0
      have k1 : w10.cell? ⟨w.heap.size + 1 + 1, 1, none⟩ = some (.int .i64 (xn)) := hx.cell 1
      exact bodyPost_ret (v := logv A n cap (xn)) (by simp [results, Try.results12, go_sem, k0, k1]) rfl ⟨by rw [HE.out], hb⟩
    · have HE := Lib.hid (show ((max g (min xn (n : Int)).toNat : Nat) : Int) = (g : Int) by omega)
      have hb1 : ((n : Int) < xn) = False := eq_false (by omega)
      have hb2 : ((g : Int) < xn) = False := eq_false (by omega)
      have hd1 : decide ((n : Int) < xn) = false := decide_eq_false (by omega)
      have hd2 : decide ((g : Int) < xn) = false := decide_eq_false (by omega)
      clear h1 h2
      go_enter Try.func12, Try.ntmps12
      go_wp2_with (first
        | ((with_reducible refine wpList_box_box _ (o := ⟨some 2, .box _ _, _, _, _, _⟩) rfl _ _ rfl [.slice A n cap, .int .i64 (g : Int)] rfl ?_); intro w1 x1 hB1 hs1)
        | ((with_reducible refine wpList_box_box _ (o := ⟨some 3, .box _ _, _, _, _, _⟩) rfl _ _ rfl [.int .u8 (xk : Int), .slice xA xl xc, .int .i64 xn] rfl ?_); intro w2 x2 hB2 hs2)
        | ((with_reducible refine wpList_alloc_box _ (o := ⟨some 4, .alloc _, _, _, _, _⟩) rfl _ rfl [.slice none 0 0, .int .i64 0] zero_log ?_); go_loud (intro w8 x3 hB3 hs3; have D8 : DoW w w8 A n cap g ⟨xk, ⟨xo, xA, xc⟩, xn⟩ := doW_new x1 hB1 hs1 (by rw [HA.out]; exact x2) hB2 hs2 x3 hB3 hs3; rw [hs2, hs1]; have HD := Lib.hid D8; have c0 : w8.cell? ⟨w.heap.size, 0, none⟩ = some (.slice A n cap) := D8.lg.cell 0; have c1 : w8.cell? ⟨w.heap.size, 1, none⟩ = some (.int .i64 (g : Int)) := D8.lg.cell 1; have f1 : w8.frozen? ⟨w.heap.size, 1, none⟩ = false := D8.lg.frozen 1; have a0 : w8.cell? ⟨w.heap.size + 1, 0, none⟩ = some (.int .u8 xk) := (D8.ac.cell 0); have a2 : w8.cell? ⟨w.heap.size + 1, 2, none⟩ = some (.int .i64 xn) := (D8.ac.cell 2).trans (by rw [HA.out]; rfl); have r0 : w8.cell? ⟨w.heap.size + 1 + 1, 0, none⟩ = some (.slice none 0 0) := D8.rs.cell 0; have r1 : w8.cell? ⟨w.heap.size + 1 + 1, 1, none⟩ = some (.int .i64 0) := D8.rs.cell 1; have r2 : w8.frozen? ⟨w.heap.size + 1 + 1, 0, none⟩ = false := D8.rs.frozen 0; have r3 : w8.frozen? ⟨w.heap.size + 1 + 1, 1, none⟩ = false := D8.rs.frozen 1; clear D8 x1 hB1 hs1 x2 hB2 hs2 x3 hB3 hs3))
        | fail)
      have hx := (HD.out.rs.set 0 (.slice A n cap)).set 1 (.int .i64 (g : Int))
      have hb := (HD.out.below.setCell (p := ⟨w.heap.size + 1 + 1, 0, none⟩) (by show w.heap.size ≤ w.heap.size + 1 + 1; omega) (.slice A n cap)).setCell (p := ⟨w.heap.size + 1 + 1, 1, none⟩) (by show w.heap.size ≤ w.heap.size + 1 + 1; omega) (.int .i64 (g : Int))
      clear c0 c1 f1 a0 a2 r0 r1 r2 r3
      generalize World.setCell (World.setCell _ _ _) _ _ = w10 at hx hb ⊢
      have k0 : w10.cell? ⟨w.heap.size + 1 + 1, 0, none⟩ = some (.slice A n cap) := hx.cell 0
      have k1 : w10.cell? ⟨w.heap.size + 1 + 1, 1, none⟩ = some (.int .i64 (g : Int)) := hx.cell 1
      exact bodyPost_ret (v := logv A n cap (g : Int)) (by simp [results, Try.results12, go_sem, k0, k1]) rfl ⟨by rw [HE.out], hb⟩
end Go.Proofs.Ytjjomfpkdbfhdaa

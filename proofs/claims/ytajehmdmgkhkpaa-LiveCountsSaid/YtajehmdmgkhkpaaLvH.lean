/-
  Layer 10's answer: Do.
-/
import Derived.Test.YtajehmdmgkhkpaaLvG
namespace Go.Proofs.Ytajehmdmgkhkpaa
open Go.RowKit Geom Lv
set_option linter.unusedVariables false

theorem elemC : Elem Try.prog 29 31 (.agg #[.int .i64 0, .int .i64 0]) 2 16 := .of Try.underlying29 (by kernel_rfl) rfl (by omega)
/-- a list of cells in memory: some slice tells it -/
def ClIs (w : World) (V : Value) (l : List (Int × Int)) : Prop := ∃ A c, V = .slice A l.length c ∧ l.length ≤ c ∧ c ≤ maxLen ∧ Rd w w.heap.size A (ccs l)
theorem ClIs.on {w w' : World} {V : Value} {l : List (Int × Int)} (h : ClIs w V l) (hb : Below w.heap.size w w') : ClIs w' V l := by
  obtain ⟨A, c, h1, h2, h3, h4⟩ := h
  exact ⟨A, c, h1, h2, h3, (h4.below hb).more hb.size⟩
theorem ClIs.of {w : World} {base n : Nat} {V : Value} {l : List (Int × Int)} (h : w.ownsRow base 31 2 V n (ccs l)) (hn : n = l.length) : ClIs w V l := by
  subst hn
  obtain ⟨A, c, rfl⟩ := own_slice h
  have := own_cap h
  exact ⟨A, c, rfl, this.1, this.2, Rd.own h⟩
theorem ClIs.nil (w : World) : ClIs w (.slice none 0 0) [] := ⟨none, 0, rfl, Nat.le_refl _, Nat.zero_le _, Rd.empty⟩
set_option maxRecDepth 100000 in
set_option maxHeartbeats 2000000 in
theorem rdo_any (conv soft seq size opn : Int) (w : World) (H : Some conv seq size) (V : Value) (l : List (Int × Int)) (hm : l.length ≤ 100000) (hV : ClIs w V l) (n v : Int) (hn : W64 n) (dr : Bool) :
    Calls Try.prog 12 #[.agg #[.int .i64 conv, .int .i64 soft, .int .i64 seq, .int .i64 size, .int .i64 opn], V, .agg #[.int .i64 n, .int .i64 v], .bool dr] w fun e w' =>
      ∃ V', e = .returned (.tuple #[V', .bool (doM seq size l n v dr).2]) ∧ ClIs w' V' (doM seq size l n v dr).1 ∧ Below w.heap.size w w' := by
  obtain ⟨A, cap, rfl, hcap, hcm, hr⟩ := hV
  have hbox := Lies.new w conv soft seq size opn 23 (0, 0)
  have hbx2 := LiesAt.new (w.alloc (.cells #[.int .i64 conv, .int .i64 soft, .int .i64 seq, .int .i64 size, .int .i64 opn] 23)) n v 31 (0, 0)
  have hbl : Below w.heap.size w ((w.alloc (.cells #[.int .i64 conv, .int .i64 soft, .int .i64 seq, .int .i64 size, .int .i64 opn] 23)).alloc (.cells #[.int .i64 n, .int .i64 v] 31)) := below_alloc1 (below_alloc1 (Below.refl _ _))
  have hli := hbox.alloc (.cells #[.int .i64 n, .int .i64 v] 31)
  have hz1 : (w.alloc (.cells #[.int .i64 conv, .int .i64 soft, .int .i64 seq, .int .i64 size, .int .i64 opn] 23)).heap.size = w.heap.size + 1 := by simp
  rw [hz1] at hbx2
  have HA := Lib.hid fun w => rat_any conv soft seq size opn n w H (by simpa [W64, Lit.wf, IntKind.min, IntKind.max, IntKind.signed, IntKind.bits] using wf_i64 hn)
  have HF := Lib.hid fun w' (h : Below w.heap.size w w') => rfind_any w' A cap l.length l rfl hm w.heap.size (hr.below h) n
  have HR := Lib.hid (And.intro hr (And.intro hcap hcm))
  have HI := Lib.hid (show isB seq size n = decide (1 ≤ n ∧ n ≤ seq * size) from rfl)
  clear hbox hz1 hr H
  generalize zoneOf conv seq size n = z at *
  generalize offOf seq size n = o at *
  cases hib : isB seq size n
  · have HD := Lib.hid (doM_out (l := l) (v := v) (dr := dr) (seq := seq) (size := size) (n := n) (fun h => by have := isB_iff.2 h; rw [hib] at this; cases this))
    rw [hib] at HA
    clear hib HI
    generalize fndI l n = fq at *
    go_enter Try.func12, Try.ntmps12
    go_wp2_with fail
    generalize World.alloc (World.alloc _ _) _ = w1 at hbx2 hbl hli ⊢
    refine (HA.out _).mono ?_
    rintro e w2 ⟨rfl, hb2⟩
    have B3 := Lib.hid ((hbl.trans (hb2.mono hbl.size)).alloc (hbl.trans (hb2.mono hbl.size)).size (.cells #[.int .i64 z, .int .i64 o] 50))
    have hx3 := (hbx2.below hb2).below ((Below.refl _ _).alloc (Nat.le_refl _) (.cells #[.int .i64 z, .int .i64 o] 50))
    clear hbl hli hb2 hbx2
    obtain ⟨a0, a1, hlt⟩ := hx3
    have HLT := Lib.hid hlt
    clear hlt
    go_wp2_with fail
    refine (HF.out _ B3.out).mono ?_
    rintro e w3 ⟨rfl, rfl⟩
    generalize w2.heap.size = b2 at *
    generalize World.alloc _ _ = w8 at a0 a1 B3 HLT ⊢
    go_wp2
    go_ret2
    exact ⟨.slice A l.length cap, by rw [HD.out]; rfl, by rw [HD.out]; exact ⟨A, cap, rfl, HR.out.2.1, HR.out.2.2, (HR.out.1.below B3.out).more B3.out.size⟩, B3.out⟩
  · rw [hib] at HA
    have hin := isB_iff.1 hib
    clear HI
    cases hl : lk l n with
    | none =>
      rw [fndI_no hl] at HF
      cases dr
      · have HD := Lib.hid (doM_add (v := v) hin hl)
        clear hib hin hl
        generalize hL : l.length = len at *
        have HL := Lib.hid hL
        clear hL
        go_enter Try.func12, Try.ntmps12
        go_wp2_with fail
        generalize World.alloc (World.alloc _ _) _ = w1 at hbx2 hbl hli ⊢
        refine (HA.out _).mono ?_
        rintro e w2 ⟨rfl, hb2⟩
        have B3 := Lib.hid ((hbl.trans (hb2.mono hbl.size)).alloc (hbl.trans (hb2.mono hbl.size)).size (.cells #[.int .i64 z, .int .i64 o] 50))
        have hx3 := (hbx2.below hb2).below ((Below.refl _ _).alloc (Nat.le_refl _) (.cells #[.int .i64 z, .int .i64 o] 50))
        clear hbl hli hb2 hbx2
        obtain ⟨a0, a1, hlt⟩ := hx3
        have HLT := Lib.hid hlt
        clear hlt
        go_wp2_with fail
        refine (HF.out _ B3.out).mono ?_
        rintro e w3 ⟨rfl, rfl⟩
        generalize w2.heap.size = b2 at *
        generalize World.alloc _ _ = w8 at a0 a1 B3 HLT ⊢
        have CB0 : Hid (ccs l ++ [Value.int .i64 n, .int .i64 v] = ccs (l ++ [(n, v)]) ∧ len + 1 = (l ++ [(n, v)]).length) := Lib.hid ⟨(ccs_append l [(n, v)]).symm, by rw [List.length_append, HL.out]; rfl⟩
        have SO := Lib.hid fun w' (h : Below w8.heap.size w8 w') => (⟨(h.cell (p := ⟨w.heap.size + 1, 0, none⟩) HLT.out).trans a0, (h.cell (p := ⟨w.heap.size + 1, 1, none⟩) HLT.out).trans a1⟩ : w'.cell? ⟨w.heap.size + 1, 0, none⟩ = some (.int .i64 n) ∧ w'.cell? ⟨w.heap.size + 1, 1, none⟩ = some (.int .i64 v))
        have RD := Lib.hid fun w' (h : Below w8.heap.size w8 w') => (((HR.out.1.below B3.out).more B3.out.size).below h : Rd w' w8.heap.size A (ccs l))
        have HC := Lib.hid (show (ccs l).length = len * 2 from by rw [ccs_length, HL.out])
        have H1c := Lib.hid (ccs_one l)
        have H1d : Hid (∀ u ∈ [Value.int .i64 n, .int .i64 v], u.oneCell' = true) := Lib.hid (by simp [Value.oneCell'])
        have OW := Lib.hid fun (W : World) (h : w8.heap.size ≤ W.heap.size) => (World.ownsRow_lit (e := 31) (size := 2) W #[] 0 h (by decide) (by simp) : (W.alloc (.cells #[] 31)).ownsRow w8.heap.size 31 2 (.slice (some ⟨W.heap.size, 0, none⟩) 0 0) 0 [])
        have BS := Lib.hid (Below.refl w8.heap.size w8).drew
        have hm2 := hm
        generalize ccs l = C at *
        go_wp2_with fail
        have hsz1 : (w8.alloc (.cells #[] 31)).heap.size = w8.heap.size + 1 := by simp
        have hsz2 : (w8.alloc (.cells #[.int .i64 n, .int .i64 v] 31)).heap.size = w8.heap.size + 1 := by simp
        have XA : Hid (Box ((w8.alloc (.cells #[] 31)).alloc (.cells #[.int .i64 n, .int .i64 v] 31)).drew (w8.heap.size + 1) 31 [.int .i64 n, .int .i64 v]) := Lib.hid (by
          have := Box.new (w8.alloc (.cells #[] 31)) 31 [.int .i64 n, .int .i64 v]
          rwa [hsz1] at this)
        have XB : Hid (Box ((w8.alloc (.cells #[.int .i64 n, .int .i64 v] 31)).alloc (.cells #[] 31)).drew w8.heap.size 31 [.int .i64 n, .int .i64 v]) := Lib.hid
          ((Box.new w8 31 [.int .i64 n, .int .i64 v]).same (Below.heap_alloc _ _ _ (by rw [hsz2]; omega)))
        have OWB : Hid (((w8.alloc (.cells #[.int .i64 n, .int .i64 v] 31)).alloc (.cells #[] 31)).ownsRow w8.heap.size 31 2 (.slice (some ⟨w8.heap.size + 1, 0, none⟩) 0 0) 0 []) := Lib.hid (by
          have := OW.out (w8.alloc (.cells #[.int .i64 n, .int .i64 v] 31)) (by rw [hsz2]; omega)
          rwa [hsz2] at this)
        clear hsz1 hsz2
        go_region_held3 (fun w' => w'.cell? ⟨w.heap.size + 1, 0, none⟩ = some (.int .i64 n) ∧ w'.cell? ⟨w.heap.size + 1, 1, none⟩ = some (.int .i64 v))
          ((refine SO.out _ ?_; repeat (first | exact Below.refl _ _ | exact B9 | exact B4 | refine Below.drew ?_ | refine below_alloc1 ?_)))
          (first
            | ((refine step_append_rd _ (by rfl) _ _ _ (by rfl) w8.heap.size 31 _ 2 16 elemC (.slice (some ⟨w8.heap.size, 0, none⟩) 0 0) 0 [] (by rfl) (OW.out w8.drew (Nat.le_refl _)) w8.heap.size A len cap C (by rfl) HC.out (RD.out _ (below_alloc1 BS.out)) H1c.out (by unfold maxLen; omega) (by omega) (by simp <;> omega) ?_); intro v4 w4 hown4 hg4; obtain ⟨A4, k4, rfl⟩ := own_slice hown4; simp only [Nat.zero_add, List.nil_append] at hown4 ⊢; have B4 : Below w8.heap.size w8 w4 := (below_alloc1 BS.out).grown hg4 (by simp <;> omega) (fun k hk => ((OW.out w8.drew (Nat.le_refl _)).lt k hk).1))
            | ((refine step_append_rd _ (by rfl) _ _ _ (by rfl) w8.heap.size 31 _ 2 16 elemC (.slice (some ⟨w8.heap.size, 0, none⟩) 0 0) 0 [] (by rfl) ((OW.out w8.drew (Nat.le_refl _)).alloc (.cells #[.int .i64 n, .int .i64 v] 31)) w8.heap.size A len cap C (by rfl) HC.out (RD.out _ (below_alloc1 (below_alloc1 BS.out))) H1c.out (by unfold maxLen; omega) (by omega) (by simp <;> omega) ?_); intro v4 w4 hown4 hg4; obtain ⟨A4, k4, rfl⟩ := own_slice hown4; simp only [Nat.zero_add, List.nil_append] at hown4 ⊢; have B4 : Below w8.heap.size w8 w4 := (below_alloc1 (below_alloc1 BS.out)).grown hg4 (by simp <;> omega) (fun k hk => (((OW.out w8.drew (Nat.le_refl _)).alloc (.cells #[.int .i64 n, .int .i64 v] 31)).lt k hk).1); go_loud (have X4 := XA.out.grown (g := w8.heap.size) hg4 (by omega)))
            | ((refine step_append_rd _ (by rfl) _ _ _ (by rfl) w8.heap.size 31 _ 2 16 elemC (.slice (some ⟨w8.heap.size + 1, 0, none⟩) 0 0) 0 [] (by rfl) (OWB.out) w8.heap.size A len cap C (by rfl) HC.out (RD.out _ (below_alloc1 (below_alloc1 BS.out))) H1c.out (by unfold maxLen; omega) (by omega) (by simp <;> omega) ?_); intro v4 w4 hown4 hg4; obtain ⟨A4, k4, rfl⟩ := own_slice hown4; simp only [Nat.zero_add, List.nil_append] at hown4 ⊢; have B4 : Below w8.heap.size w8 w4 := (below_alloc1 (below_alloc1 BS.out)).grown hg4 (by simp <;> omega) (fun k hk => ((OWB.out).lt k hk).1); go_loud (have Y4 := XB.out.grown (g := w8.heap.size + 1) hg4 (by omega)))
            | ((refine step_append_big _ (by rfl) _ _ _ (by rfl) w8.heap.size 31 _ 2 16 elemC (.slice A4 len k4) len C (by rfl) (hown4.alloc (.cells #[.int .i64 n, .int .i64 v] 31)) w4.heap.size [.int .i64 n, .int .i64 v] (by rfl) (by rfl) (fun j u hu => by rw [Addr.add_mid, Nat.zero_add]; exact ((Box.new w4 31 [.int .i64 n, .int .i64 v]).cell j).trans hu) H1d.out (by unfold maxLen; omega) (by omega) (by have := B4.size; simp <;> omega) ?_); intro g9 c9 w9 hown9 hg9 hat9; have B9 : Below w8.heap.size w8 w9 := (below_alloc1 B4).grown hg9 (by have := B4.size; simp <;> omega) (fun k hk => (((hown4.alloc (.cells #[.int .i64 n, .int .i64 v] 31))).lt k hk).1))
            | ((refine step_append_big _ (by rfl) _ _ _ (by rfl) w8.heap.size 31 _ 2 16 elemC (.slice A4 len k4) len C (by rfl) hown4 (w8.heap.size + 1) [.int .i64 n, .int .i64 v] (by rfl) (by rfl) (fun j u hu => by rw [Addr.add_mid, Nat.zero_add]; exact (X4.cell j).trans hu) H1d.out (by unfold maxLen; omega) (by omega) (by have := B4.size; simp <;> omega) ?_); intro g9 c9 w9 hown9 hg9 hat9; have B9 : Below w8.heap.size w8 w9 := B4.grown hg9 (by have := B4.size; simp <;> omega) (fun k hk => ((hown4).lt k hk).1))
            | ((refine step_append_big _ (by rfl) _ _ _ (by rfl) w8.heap.size 31 _ 2 16 elemC (.slice A4 len k4) len C (by rfl) hown4 w8.heap.size [.int .i64 n, .int .i64 v] (by rfl) (by rfl) (fun j u hu => by rw [Addr.add_mid, Nat.zero_add]; exact (Y4.cell j).trans hu) H1d.out (by unfold maxLen; omega) (by omega) (by have := B4.size; simp <;> omega) ?_); intro g9 c9 w9 hown9 hg9 hat9; have B9 : Below w8.heap.size w8 w9 := B4.grown hg9 (by have := B4.size; simp <;> omega) (fun k hk => ((hown4).lt k hk).1))
            | fail)
        all_goals
          have HO := Lib.hid (And.intro hown9 B9)
          clear hown9 B9 hg9 hat9
          go_wp2
          go_ret2
          rw [HD.out]
          exact ⟨_, rfl, ClIs.of (by rw [← CB0.out.1]; exact HO.out.1) CB0.out.2, B3.out.trans (HO.out.2.mono B3.out.size)⟩
      · have HD := Lib.hid (doM_not (seq := seq) (size := size) (n := n) (l := l) (v := v) (dr := true) (by rw [hl]; simp))
        clear hib hin hl
        go_enter Try.func12, Try.ntmps12
        go_wp2_with fail
        generalize World.alloc (World.alloc _ _) _ = w1 at hbx2 hbl hli ⊢
        refine (HA.out _).mono ?_
        rintro e w2 ⟨rfl, hb2⟩
        have B3 := Lib.hid ((hbl.trans (hb2.mono hbl.size)).alloc (hbl.trans (hb2.mono hbl.size)).size (.cells #[.int .i64 z, .int .i64 o] 50))
        have hx3 := (hbx2.below hb2).below ((Below.refl _ _).alloc (Nat.le_refl _) (.cells #[.int .i64 z, .int .i64 o] 50))
        clear hbl hli hb2 hbx2
        obtain ⟨a0, a1, hlt⟩ := hx3
        have HLT := Lib.hid hlt
        clear hlt
        go_wp2_with fail
        refine (HF.out _ B3.out).mono ?_
        rintro e w3 ⟨rfl, rfl⟩
        generalize w2.heap.size = b2 at *
        generalize World.alloc _ _ = w8 at a0 a1 B3 HLT ⊢
        go_wp2
        go_ret2
        exact ⟨.slice A l.length cap, by rw [HD.out]; rfl, by rw [HD.out]; exact ⟨A, cap, rfl, HR.out.2.1, HR.out.2.2, (HR.out.1.below B3.out).more B3.out.size⟩, B3.out⟩
    | some u =>
      have hsome : (lk l n).isSome = true := by rw [hl]; rfl
      have hfd := fd_lt (l := l) (n := n) hsome
      rw [fndI_yes (by rw [hl]; rfl)] at HF
      cases dr
      · have HD := Lib.hid (doM_not (seq := seq) (size := size) (n := n) (l := l) (v := v) (dr := false) (by rw [hl]; simp))
        clear hib hin hl
        go_enter Try.func12, Try.ntmps12
        go_wp2_with fail
        generalize World.alloc (World.alloc _ _) _ = w1 at hbx2 hbl hli ⊢
        refine (HA.out _).mono ?_
        rintro e w2 ⟨rfl, hb2⟩
        have B3 := Lib.hid ((hbl.trans (hb2.mono hbl.size)).alloc (hbl.trans (hb2.mono hbl.size)).size (.cells #[.int .i64 z, .int .i64 o] 50))
        have hx3 := (hbx2.below hb2).below ((Below.refl _ _).alloc (Nat.le_refl _) (.cells #[.int .i64 z, .int .i64 o] 50))
        clear hbl hli hb2 hbx2
        obtain ⟨a0, a1, hlt⟩ := hx3
        have HLT := Lib.hid hlt
        clear hlt
        go_wp2_with fail
        refine (HF.out _ B3.out).mono ?_
        rintro e w3 ⟨rfl, rfl⟩
        generalize w2.heap.size = b2 at *
        generalize World.alloc _ _ = w8 at a0 a1 B3 HLT ⊢
        go_wp2
        go_ret2
        exact ⟨.slice A l.length cap, by rw [HD.out]; rfl, by rw [HD.out]; exact ⟨A, cap, rfl, HR.out.2.1, HR.out.2.2, (HR.out.1.below B3.out).more B3.out.size⟩, B3.out⟩
      · have HD := Lib.hid (doM_drop (v := v) hin (by rw [hl]; rfl))
        clear hib hin hl
        go_enter Try.func12, Try.ntmps12
        go_wp2_with fail
        generalize World.alloc (World.alloc _ _) _ = w1 at hbx2 hbl hli ⊢
        refine (HA.out _).mono ?_
        rintro e w2 ⟨rfl, hb2⟩
        have B3 := Lib.hid ((hbl.trans (hb2.mono hbl.size)).alloc (hbl.trans (hb2.mono hbl.size)).size (.cells #[.int .i64 z, .int .i64 o] 50))
        have hx3 := (hbx2.below hb2).below ((Below.refl _ _).alloc (Nat.le_refl _) (.cells #[.int .i64 z, .int .i64 o] 50))
        clear hbl hli hb2 hbx2
        obtain ⟨a0, a1, hlt⟩ := hx3
        have HLT := Lib.hid hlt
        clear hlt
        go_wp2_with fail
        refine (HF.out _ B3.out).mono ?_
        rintro e w3 ⟨rfl, rfl⟩
        generalize w2.heap.size = b2 at *
        generalize World.alloc _ _ = w8 at a0 a1 B3 HLT ⊢
        obtain ⟨x0, hx0⟩ : ∃ x, l[fd l n]? = some x := ⟨l[fd l n], by simp [hfd]⟩
        obtain ⟨ad, rfl, _⟩ := pair_at HR.out.1 hx0
        clear hx0
        have RD := Lib.hid fun w' (h : Below w8.heap.size w8 w') => (((HR.out.1.below B3.out).more B3.out.size).below h : Rd w' w8.heap.size (some ad) (ccs l))
        have CB0 := Lib.hid (er_cut l n)
        have CEL := Lib.hid (er_length (l := l) (n := n) hsome)
        generalize hL : l.length = len at *
        have HL := Lib.hid hL
        clear hL
        generalize fd l n = i at *
        have CB1 : Hid (ccs (l.take i) ++ ccs (l.drop (i + 1)) = ccs (er l n) ∧ i + (len - (i + 1)) = (er l n).length) := Lib.hid ⟨by rw [CB0.out, ccs_append], by have := CEL.out; omega⟩
        have H1c := Lib.hid (ccs_one (l.take i))
        have H2c := Lib.hid (ccs_one (l.drop (i + 1)))
        have HC1 := Lib.hid (show (ccs (l.take i)).length = i * 2 from by rw [ccs_length, List.length_take, HL.out, Nat.min_eq_left (by omega)])
        have HC2 := Lib.hid (show (ccs (l.drop (i + 1))).length = (len - (i + 1)) * 2 from by rw [ccs_length, List.length_drop, HL.out])
        have RD1 := Lib.hid fun w' (h : Below w8.heap.size w8 w') => (show Rd w' w8.heap.size (some ad) (ccs (l.take i)) from by rw [ccs_take]; exact (RD.out w' h).front)
        have OW := Lib.hid fun (W : World) (h : w8.heap.size ≤ W.heap.size) => (World.ownsRow_lit (e := 31) (size := 2) W #[] 0 h (by decide) (by simp) : (W.alloc (.cells #[] 31)).ownsRow w8.heap.size 31 2 (.slice (some ⟨W.heap.size, 0, none⟩) 0 0) 0 [])
        have BS := Lib.hid (Below.refl w8.heap.size w8).drew
        have HCM := Lib.hid hcm
        unfold maxLen at hcm
        by_cases hc : cap = i + 1
        · obtain rfl : len = i + 1 := by omega
          subst hc
          have RD2 : Hid (∀ w', Below w8.heap.size w8 w' → Rd w' w8.heap.size (some ad) (ccs (l.drop (i + 1)))) := Lib.hid fun w' h => by
            rw [List.drop_eq_nil_of_le (by have := HL.out; omega)]
            exact Rd.empty
          have HC2 : Hid ((ccs (l.drop (i + 1))).length = 0 * 2) := Lib.hid (by rw [HC2.out]; omega)
          have CB2 : Hid (i = (er l n).length) := Lib.hid (by have := CB1.out.2; omega)
          generalize ccs (l.take i) = C1 at *
          generalize ccs (l.drop (i + 1)) = C2 at *
          have hi0 : (i : Int) ≤ (i : Int) + 1 := by omega
          have hi3 : (0 : Int) ≤ (i : Int) + 1 := by omega
          have hi1 : (i : Int) + 1 ≤ (i : Int) + 1 := by omega
          go_wp2_with fail
          have hq := IntWalk.i64_in ((i : Int) + 1) (by omega)
          have hi1 : (i : Int) + 1 ≤ (i : Int) + 1 := by omega
          have hi3 : (0 : Int) ≤ (i : Int) + 1 := by omega
          have hi0 : (i : Int) ≤ (i : Int) + 1 := by omega
          go_region_held3 (fun w' => w8.heap.size ≤ w'.heap.size)
            ((first | (have := B9.size; simp <;> omega) | (have := B4.size; simp <;> omega) | (simp; done) | (simp; omega)))
            (first
              | ((refine step_append_rd _ (by rfl) _ _ _ (by rfl) w8.heap.size 31 _ 2 16 elemC (.slice (some ⟨w8.heap.size, 0, none⟩) 0 0) 0 [] (by rfl) (OW.out w8.drew (Nat.le_refl _)) w8.heap.size (some ad) i (i + 1) C1 (by rfl) HC1.out (RD1.out _ (below_alloc1 BS.out)) H1c.out (by unfold maxLen; omega) (by omega) (by simp <;> omega) ?_); intro v4 w4 hown4 hg4; obtain ⟨A4, k4, rfl⟩ := own_slice hown4; simp only [Nat.zero_add, List.nil_append] at hown4 ⊢; have B4 : Below w8.heap.size w8 w4 := (below_alloc1 BS.out).grown hg4 (by simp <;> omega) (fun k hk => ((OW.out w8.drew (Nat.le_refl _)).lt k hk).1))
              | ((refine step_append_rd _ (by rfl) _ _ _ (by rfl) w8.heap.size 31 _ 2 16 elemC (.slice A4 i k4) i C1 (by rfl) hown4 w8.heap.size (some ad) 0 0 C2 (by rfl) HC2.out (RD2.out _ B4) H2c.out (by unfold maxLen; omega) (by omega) B4.size ?_); intro v9 w9 hown9 hg9; have B9 : Below w8.heap.size w8 w9 := B4.grown hg9 B4.size (fun k hk => (hown4.lt k hk).1))
              | fail)
          all_goals
            have HO := Lib.hid (And.intro hown9 B9)
            clear hown9 B9 hg9
            go_wp2
            go_ret2
            rw [HD.out]
            exact ⟨_, rfl, ClIs.of (by rw [← CB1.out.1]; exact HO.out.1) (by first | exact CB2.out | exact CB1.out.2), B3.out.trans (HO.out.2.mono B3.out.size)⟩
        · have RD2 : Hid (∀ w', Below w8.heap.size w8 w' → Rd w' w8.heap.size (some (ad.add ((i + 1) * 2))) (ccs (l.drop (i + 1)))) := Lib.hid fun w' h => by
            rw [ccs_drop]
            exact (RD.out w' h).tail
          generalize ccs (l.take i) = C1 at *
          generalize ccs (l.drop (i + 1)) = C2 at *
          have hi0 : (i : Int) ≤ (cap : Int) := by omega
          have hi3 : (0 : Int) ≤ (i : Int) + 1 := by omega
          have hi1 : (i : Int) + 1 ≤ (len : Int) := by omega
          go_wp2_with fail
          have hq := IntWalk.i64_in ((i : Int) + 1) (by omega)
          have hi1 : (i : Int) + 1 ≤ (len : Int) := by omega
          have hi3 : (0 : Int) ≤ (i : Int) + 1 := by omega
          have hi0 : (i : Int) ≤ (cap : Int) := by omega
          go_region_held3 (fun w' => w8.heap.size ≤ w'.heap.size)
            ((first | (have := B9.size; simp <;> omega) | (have := B4.size; simp <;> omega) | (simp; done) | (simp; omega)))
            (first
              | ((refine step_append_rd _ (by rfl) _ _ _ (by rfl) w8.heap.size 31 _ 2 16 elemC (.slice (some ⟨w8.heap.size, 0, none⟩) 0 0) 0 [] (by rfl) (OW.out w8.drew (Nat.le_refl _)) w8.heap.size (some ad) i cap C1 (by rfl) HC1.out (RD1.out _ (below_alloc1 BS.out)) H1c.out (by unfold maxLen; omega) (by omega) (by simp <;> omega) ?_); intro v4 w4 hown4 hg4; obtain ⟨A4, k4, rfl⟩ := own_slice hown4; simp only [Nat.zero_add, List.nil_append] at hown4 ⊢; have B4 : Below w8.heap.size w8 w4 := (below_alloc1 BS.out).grown hg4 (by simp <;> omega) (fun k hk => ((OW.out w8.drew (Nat.le_refl _)).lt k hk).1))
              | ((refine step_append_rd _ (by rfl) _ _ _ (by rfl) w8.heap.size 31 _ 2 16 elemC (.slice A4 i k4) i C1 (by rfl) hown4 w8.heap.size (some (ad.add ((i + 1) * 2))) (len - (i + 1)) (cap - (i + 1)) C2 (by rfl) HC2.out (RD2.out _ B4) H2c.out (by unfold maxLen; omega) (by omega) B4.size ?_); intro v9 w9 hown9 hg9; have B9 : Below w8.heap.size w8 w9 := B4.grown hg9 B4.size (fun k hk => (hown4.lt k hk).1))
              | fail)
          all_goals
            have HO := Lib.hid (And.intro hown9 B9)
            clear hown9 B9 hg9
            go_wp2
            go_ret2
            rw [HD.out]
            exact ⟨_, rfl, ClIs.of (by rw [← CB1.out.1]; exact HO.out.1) (by first | exact CB2.out | exact CB1.out.2), B3.out.trans (HO.out.2.mono B3.out.size)⟩
end Go.Proofs.Ytajehmdmgkhkpaa

/-
  Layer 11's laws: the law Acts.
-/
import Derived.Test.YtnpnnejopibjcaaPoY
namespace Go.Proofs.Ytnpnnejopibjcaa
open Go.RowKit Geom Leaf Pol Zone
set_option linter.unusedVariables false

theorem vars_laid {w5 u1 u2 u3 u4 : World} {z x : Int} {A : Option Addr} {n c : Nat} {k0 k1 k2 : Int} (ha : Below w5.heap.size w5 u1) (hs : u1.heap.size = w5.heap.size + 1) (hb : Below u1.heap.size u1 u2) (hc : u2.grownBy u3 (some w5.heap.size)) (hd : u3.grownBy u4 (some u1.heap.size))
    (xc : Box u3 w5.heap.size 37 (pacl z x)) (xd : Box u4 u1.heap.size 31 (plcs A n c k0 k1 k2)) : Below w5.heap.size w5 u4 ∧ Box u4 w5.heap.size 37 (pacl z x) ∧ Box u4 u1.heap.size 31 (plcs A n c k0 k1 k2) := by
  have h1 : Below w5.heap.size w5 u2 := ha.trans (hb.mono ha.size)
  have h2 : Below w5.heap.size w5 u3 := h1.grown hc h1.size (fun k hk => by injection hk with hk; omega)
  exact ⟨h2.grown hd h2.size (fun k hk => by injection hk with hk; omega), xc.grown hd (by omega), xd⟩
theorem isame_refl (A A' : Option Addr) (len cap cap' : Nat) (w : World) (hl : len ≤ maxLen) (xs : List Int) (hx : xs.length = len) (B : Nat) (hr : Rd w B A (is xs)) (hr' : Rd w B A' (is xs)) :
    Calls Try.prog 20 #[.slice A len cap, .slice A' len cap'] w fun e w' => e = .returned (.bool true) ∧ ∃ n, w.drewN n = w' := by
  have h := isame_any A A' len cap len cap' w hl hl xs xs hx hx B hr hr'
  rw [beq_self_eq_true] at h
  exact h
set_option maxRecDepth 100000 in
set_option maxHeartbeats 16000000 in
theorem polaw_acts (conv soft seq size opn : Int) (A : Option Addr) (n cap : Nat) (ps : List Int) (h0 h1 h2 : Int) (st : Nat) (z : Int) (w : World) (hm : n ≤ maxLen) (hn : ps.length = n) (hr : Rd w w.heap.size A (is ps)) (z0 : h0 < 9223372036854775808) (z1 : h1 < 9223372036854775808) (z2 : h2 < 9223372036854775808) (hst : st ≤ 255) (kz : z < 9223372036854775808) :
    Calls Try.prog 4 #[pgv conv soft seq size opn, ppv A n cap h0 h1 h2, .int .u8 st, .int .i64 z] w fun e w' => e = .returned (.bool true) ∧ Below w.heap.size w w' := by
  have H0 := Lib.hid (GP.new w conv soft seq size opn A n cap h0 h1 h2 23 31)
  have HB := Lib.hid fun w => rright_any conv soft seq size opn w
  by_cases hok : Ok conv soft seq size opn
  rotate_left
  · rw [ok_no hok] at HB
    go_enter Try.func4, Try.ntmps4
    go_wp2_with fail
    generalize World.alloc _ _ = w0 at H0 ⊢
    refine (awake11_any _).mono ?_
    rintro e w1 ⟨rfl, hb⟩
    have H1 := Lib.hid (GP.below H0.out hb)
    obtain ⟨c0, c1, c2, c3, c4, cl⟩ := id H1.out.1
    clear H0 hb
    go_wp2_with fail
    refine (HB.out _).mono ?_
    rintro e w2 ⟨rfl, hb⟩
    have H2 := Lib.hid (GP.below H1.out hb)
    clear H1 hb c0 c1 c2 c3 c4 cl
    go_wp2_with fail
    refine (awake11_any _).mono ?_
    rintro e w9 ⟨rfl, hb9⟩
    have H9 := Lib.hid (GP.below H2.out hb9)
    clear hb9
    go_wp2
    go_ret
    exact ⟨rfl, H9.out.2.2⟩
  rw [ok_yes hok] at HB
  have HPR := Lib.hid fun w' (h : GP w w' conv soft seq size opn A n cap h0 h1 h2) => pright_any conv soft seq size opn A n cap ps h0 h1 h2 w' hm hn hok.some z0 z1 z2 (hr.gp h)
  have HRR := Lib.hid fun w' (h : GP w w' conv soft seq size opn A n cap h0 h1 h2) => rpright_any conv soft seq size opn A n cap ps h0 h1 h2 w' hm hn hok.some (hr.gp h)
  have HRb := Lib.hid (right_iff (conv := conv) (seq := seq) (size := size) (ps := ps) (h0 := h0) (h1 := h1) (h2 := h2))
  have HR := Lib.hid hr
  have HS := Lib.hid hok.some
  have HN := Lib.hid hn
  clear z0 z1 z2 hok hr hn
  generalize rightB conv seq size ps h0 h1 h2 = rb at HPR HRR HRb
  cases rb
  · go_enter Try.func4, Try.ntmps4
    go_wp2_with fail
    generalize World.alloc _ _ = w0 at H0 ⊢
    refine (awake11_any _).mono ?_
    rintro e w1 ⟨rfl, hb⟩
    have H1 := Lib.hid (GP.below H0.out hb)
    obtain ⟨c0, c1, c2, c3, c4, cl⟩ := id H1.out.1
    clear H0 hb
    go_wp2_with fail
    refine (HB.out _).mono ?_
    rintro e w2 ⟨rfl, hb⟩
    have H2 := Lib.hid (GP.below H1.out hb)
    clear H1 hb c0 c1 c2 c3 c4 cl
    obtain ⟨c0, c1, c2, c3, c4, cl⟩ := id H2.out.1
    obtain ⟨a0, a1, a2, a3, al⟩ := id H2.out.2.1
    go_wp2_with fail
    refine wp_region_class (fun w' => GP w w' conv soft seq size opn A n cap h0 h1 h2) (by kernel_rfl) (by kernel_rfl) H2.out.drew ?_
    intro X hX f hf hg
    have c0 := fun x => (hf x).1.1
    have c1 := fun x => (hf x).1.2.1
    have c2 := fun x => (hf x).1.2.2.1
    have c3 := fun x => (hf x).1.2.2.2.1
    have c4 := fun x => (hf x).1.2.2.2.2.1
    have a0 := fun x => (hf x).2.1.1
    have a1 := fun x => (hf x).2.1.2.1
    have a2 := fun x => (hf x).2.1.2.2.1
    have a3 := fun x => (hf x).2.1.2.2.2.1
    have Hf := Lib.hid hf
    have Hg := Lib.hid hg
    clear hf hg H2 cl al
    repeat (go_big_quiet_step (first | exact calls_class (HPR.out _ (Hf.out _)) (fun _ hb => Hg.out _ ((Hf.out _).below hb)) | exact calls_class (HRR.out _ (Hf.out _)) (fun _ hb => Hg.out _ ((Hf.out _).below hb))))
    refine wpQuiet_nil ?_
    rintro _ ⟨x, rfl⟩
    have H3 := Lib.hid (Hf.out x)
    clear c0 c1 c2 c3 c4 a0 a1 a2 a3 Hf Hg
    generalize f x = w3 at H3 ⊢
    obtain ⟨c0, c1, c2, c3, c4, cl⟩ := id H3.out.1
    obtain ⟨a0, a1, a2, a3, al⟩ := id H3.out.2.1
    have hq : (false != false) = false := rfl
    go_wp2_with fail
    refine (HRR.out _ H3.out).mono ?_
    rintro e w4 ⟨rfl, hb⟩
    have H4 := Lib.hid (GP.below H3.out hb)
    clear hb
    go_wp2
    go_ret
    exact ⟨rfl, H4.out.2.2⟩
  have hR := HRb.out.1 rfl
  have hl := hR.len
  rw [HN.out] at hl
  have hn64 : n ≤ 64 := by have := HS.out.2.2.1; have := HS.out.1; omega
  obtain ⟨sz, sx, qs, k0, k1, k2, ok, HQl, HQr, HSt, HSr⟩ := both_step conv soft seq size opn n ps h0 h1 h2 (st % 3) hn64 HN.out HS.out hR (by omega)
  obtain ⟨rs, ok2, HTl, HTr, HRe, HRf⟩ := both_reset conv soft seq size opn n ps h0 h1 h2 z kz hn64 HN.out HS.out hR
  obtain ⟨rm, hrm, rm0, rm1, HRo, _⟩ := both_room conv soft seq size opn n ps h0 h1 h2 (st % 3) hn64 HN.out HS.out hR (by omega)
  have HRr := both_rroom conv soft seq size opn n ps h0 h1 h2 (st % 3) hn64 HN.out HS.out hR (by omega)
  rw [← hrm] at HRr
  have hfe := full_eq hR HS.out
  rw [HN.out] at hfe
  have HFr := fun w' (h : Rd w' w'.heap.size A (is ps)) => pfree_any conv soft seq size opn A n cap ps h0 h1 h2 w' hn64 HN.out HS.out h
  have HFu := fun w' (h : Rd w' w'.heap.size A (is ps)) => pfull_any conv soft seq size opn A n cap ps h0 h1 h2 w' hn64 HN.out HS.out h
  have HZ0 := fun w' (h : Rd w' w'.heap.size A (is ps)) => rpzones_any conv soft seq size opn A n cap ps h0 h1 h2 0 w' hn64 HN.out HS.out h
  have HZs := fun w' (h : Rd w' w'.heap.size A (is ps)) => rpzones_any conv soft seq size opn A n cap ps h0 h1 h2 size w' hn64 HN.out HS.out h
  rw [zonF_free] at HZ0
  rw [hfe] at HZs
  have hl0 : (freeX conv ps h0 h1 h2 n).length ≤ 64 := Nat.le_trans (Nat.le_trans (List.length_filter_le _ _) (zones_le _ _ _ _)) hn64
  have hl1 : (zonesX conv ps size n).length ≤ 64 := Nat.le_trans (zones_le _ _ _ _) hn64
  generalize freeX conv ps h0 h1 h2 n = fl at *
  generalize zonesX conv ps size n = ul at *
  have HLs := Lib.hid (And.intro hl0 hl1)
  have HQL := Lib.hid HQl
  have HTL := Lib.hid HTl
  have HSt := Lib.hid HSt
  have HSr := Lib.hid HSr
  have HRe := Lib.hid HRe
  have HRf := Lib.hid HRf
  have HRo := Lib.hid HRo
  have HRr := Lib.hid HRr
  have HFr := Lib.hid HFr
  have HFu := Lib.hid HFu
  have HZ0 := Lib.hid HZ0
  have HZs := Lib.hid HZs
  have HN64 := Lib.hid hn64
  clear hR hl hrm rm0 rm1 hfe hl0 hl1 HQl HTl HQr HTr hn64
  go_enter Try.func4, Try.ntmps4
  go_wp2_with fail
  generalize World.alloc _ _ = w0 at H0 ⊢
  refine (awake11_any _).mono ?_
  rintro e w1 ⟨rfl, hb⟩
  have H1 := Lib.hid (GP.below H0.out hb)
  obtain ⟨c0, c1, c2, c3, c4, cl⟩ := id H1.out.1
  clear H0 hb
  go_wp2_with fail
  refine (HB.out _).mono ?_
  rintro e w2 ⟨rfl, hb⟩
  have H2 := Lib.hid (GP.below H1.out hb)
  clear H1 hb c0 c1 c2 c3 c4 cl
  obtain ⟨c0, c1, c2, c3, c4, cl⟩ := id H2.out.1
  obtain ⟨a0, a1, a2, a3, al⟩ := id H2.out.2.1
  go_wp2_with fail
  refine wp_region_class (fun w' => GP w w' conv soft seq size opn A n cap h0 h1 h2) (by kernel_rfl) (by kernel_rfl) H2.out.drew ?_
  intro X hX f hf hg
  have c0 := fun x => (hf x).1.1
  have c1 := fun x => (hf x).1.2.1
  have c2 := fun x => (hf x).1.2.2.1
  have c3 := fun x => (hf x).1.2.2.2.1
  have c4 := fun x => (hf x).1.2.2.2.2.1
  have a0 := fun x => (hf x).2.1.1
  have a1 := fun x => (hf x).2.1.2.1
  have a2 := fun x => (hf x).2.1.2.2.1
  have a3 := fun x => (hf x).2.1.2.2.2.1
  have Hf := Lib.hid hf
  have Hg := Lib.hid hg
  clear hf hg H2 cl al
  repeat (go_big_quiet_step (first | exact calls_class (HPR.out _ (Hf.out _)) (fun _ hb => Hg.out _ ((Hf.out _).below hb)) | exact calls_class (HRR.out _ (Hf.out _)) (fun _ hb => Hg.out _ ((Hf.out _).below hb))))
  refine wpQuiet_nil ?_
  rintro _ ⟨x, rfl⟩
  have H3 := Lib.hid (Hf.out x)
  clear c0 c1 c2 c3 c4 a0 a1 a2 a3 Hf Hg
  generalize f x = w3 at H3 ⊢
  obtain ⟨c0, c1, c2, c3, c4, cl⟩ := id H3.out.1
  obtain ⟨a0, a1, a2, a3, al⟩ := id H3.out.2.1
  have hq : (true != true) = false := rfl
  go_wp2_with fail
  refine (HRR.out _ H3.out).mono ?_
  rintro e w4 ⟨rfl, hb⟩
  have H4 := Lib.hid (GP.below H3.out hb)
  clear hb c0 c1 c2 c3 c4 cl a0 a1 a2 a3 al H3
  obtain ⟨c0, c1, c2, c3, c4, cl⟩ := id H4.out.1
  obtain ⟨a0, a1, a2, a3, al⟩ := id H4.out.2.1
  go_wp2_with fail
  rw [show ((st : Int) % 3) = ((st % 3 : Nat) : Int) by omega]
  generalize st % 3 = s at *
  refine (HSt.out _ _ _ (Rd.gp HR.out H4.out)).mono ?_
  rintro e w5 ⟨g5, p5, rfl, hown, hb⟩
  have H5 := Lib.hid (GP.below H4.out hb)
  have O5 := Lib.hid hown
  clear hb hown c0 c1 c2 c3 c4 cl a0 a1 a2 a3 al H4 HSt
  go_wp2_with (first
    | ((with_reducible refine wpList_pat_alloc (o := ⟨_, .alloc _, _, _, _, _⟩) rfl rfl ?_); intro u1 xa hu1 hs1)
    | ((with_reducible refine wpList_pool_alloc (o := ⟨_, .alloc _, _, _, _, _⟩) rfl rfl ?_); intro u2 xb hu2 hs2; have xa2 := xa.on hu2)
    | ((with_reducible refine wpList_pat_store (o := ⟨none, .store _ _ _, _, _, _, _⟩) rfl _ _ rfl _ sz sx 0 0 rfl rfl xa2 ?_); intro u3 xc hu3; have xb3 := xb.grown hu3 (xb.ne xa2 (by decide)))
    | ((with_reducible refine wpList_pool_store (o := ⟨none, .store _ _ _, _, _, _, _⟩) rfl _ _ rfl _ (some ⟨g5, 0, none⟩) none n 0 p5 0 k0 k1 k2 0 0 0 rfl rfl xb3 ?_); intro u4 xd hu4; have hv := vars_laid hu1 hs1 hu2 hu3 hu4 xc xd; clear xa xb xa2 xb3 xc xd hu1 hs1 hu2 hs2 hu3 hu4; generalize u1.heap.size = bp6 at hv ⊢; generalize hba : w5.heap.size = ba6 at hv ⊢; have hv1 := hv.1; rw [← hba] at hv1; have H6 := Lib.hid (GP.below H5.out hv1); have O6 := Lib.hid (own_below O5.out hv1); clear H5 O5; have XA6 := Lib.hid hv.2.1; have XP6 := Lib.hid hv.2.2; clear hv hv1 hba; obtain ⟨c0, c1, c2, c3, c4, cl⟩ := id H6.out.1; obtain ⟨a0, a1, a2, a3, al⟩ := id H6.out.2.1)
    | fail)
  refine (HSr.out _ _ _ (Rd.gp HR.out H6.out)).mono ?_
  rintro e w7 ⟨A7, p7, rfl, hrd, hb⟩
  have H7 := Lib.hid (GP.below H6.out hb)
  have XA7 := Lib.hid (XA6.out.on hb)
  have XP7 := Lib.hid (XP6.out.on hb)
  have O7 := Lib.hid (own_below O6.out hb)
  have P7 := Lib.hid hrd
  clear hb hrd c0 c1 c2 c3 c4 cl a0 a1 a2 a3 al H6 XA6 XP6 O6 HSr
  go_wp2_with (first
    | ((with_reducible refine wpList_pat_alloc (o := ⟨_, .alloc _, _, _, _, _⟩) rfl rfl ?_); intro u1 xa hu1 hs1)
    | ((with_reducible refine wpList_pool_alloc (o := ⟨_, .alloc _, _, _, _, _⟩) rfl rfl ?_); intro u2 xb hu2 hs2; have xa2 := xa.on hu2)
    | ((with_reducible refine wpList_pat_store (o := ⟨none, .store _ _ _, _, _, _, _⟩) rfl _ _ rfl _ sz sx 0 0 rfl rfl xa2 ?_); intro u3 xc hu3; have xb3 := xb.grown hu3 (xb.ne xa2 (by decide)))
    | ((with_reducible refine wpList_pool_store (o := ⟨none, .store _ _ _, _, _, _, _⟩) rfl _ _ rfl _ A7 none n 0 p7 0 k0 k1 k2 0 0 0 rfl rfl xb3 ?_); intro u4 xd hu4; have hv := vars_laid hu1 hs1 hu2 hu3 hu4 xc xd; clear xa xb xa2 xb3 xc xd hu1 hs1 hu2 hs2 hu3 hu4; generalize u1.heap.size = bp8 at hv ⊢; generalize hba : w7.heap.size = ba8 at hv ⊢; have hv1 := hv.1; rw [← hba] at hv1; have H8 := Lib.hid (GP.below H7.out hv1); have XA8 := Lib.hid (XA7.out.on hv1); have XP8 := Lib.hid (XP7.out.on hv1); have O8 := Lib.hid (own_below O7.out hv1); have P8 := Lib.hid ((P7.out.below hv1).more hv1.size); clear H7 XA7 XP7 O7 P7; have XB8 := Lib.hid hv.2.1; have XQ8 := Lib.hid hv.2.2; clear hv hv1 hba; obtain ⟨c0, c1, c2, c3, c4, cl⟩ := id H8.out.1; obtain ⟨a0, a1, a2, a3, al⟩ := id H8.out.2.1)
    | fail)
  refine (HRe.out _ _ _ (Rd.gp HR.out H8.out)).mono ?_
  rintro e w9 ⟨g9, p9, rfl, hown, hb⟩
  have H9 := Lib.hid (GP.below H8.out hb)
  have XA9 := Lib.hid (XA8.out.on hb)
  have XP9 := Lib.hid (XP8.out.on hb)
  have XB9 := Lib.hid (XB8.out.on hb)
  have XQ9 := Lib.hid (XQ8.out.on hb)
  have O9 := Lib.hid (own_below O8.out hb)
  have P9 := Lib.hid ((P8.out.below hb).more hb.size)
  have R9 := Lib.hid hown
  clear hb hown c0 c1 c2 c3 c4 cl a0 a1 a2 a3 al H8 XA8 XP8 XB8 XQ8 O8 P8 HRe
  go_wp2_with (first
    | ((with_reducible refine wpList_pool_alloc (o := ⟨_, .alloc _, _, _, _, _⟩) rfl rfl ?_); intro u2 xb hu2 hs2)
    | ((with_reducible refine wpList_pool_store (o := ⟨none, .store _ _ _, _, _, _, _⟩) rfl _ _ rfl _ (some ⟨g9, 0, none⟩) none n 0 p9 0 h0 h1 h2 0 0 0 rfl rfl xb ?_); intro u4 xd hu4; have hv1 := hu2.grown hu4 hu2.size (fun k hk => by injection hk with hk; omega); clear xb hu2 hs2 hu4; generalize hbp : w9.heap.size = bp10 at xd ⊢; have H10 := Lib.hid (GP.below H9.out hv1); have XA10 := Lib.hid (XA9.out.on hv1); have XP10 := Lib.hid (XP9.out.on hv1); have XB10 := Lib.hid (XB9.out.on hv1); have XQ10 := Lib.hid (XQ9.out.on hv1); have O10 := Lib.hid (own_below O9.out hv1); have P10 := Lib.hid ((P9.out.below hv1).more hv1.size); have R10 := Lib.hid (own_below R9.out hv1); clear H9 XA9 XP9 XB9 XQ9 O9 P9 R9; have XC10 := Lib.hid xd; clear hv1 xd hbp; obtain ⟨c0, c1, c2, c3, c4, cl⟩ := id H10.out.1; obtain ⟨a0, a1, a2, a3, al⟩ := id H10.out.2.1)
    | fail)
  refine (HRf.out _ _ _ (Rd.gp HR.out H10.out)).mono ?_
  rintro e w11 ⟨A11, p11, rfl, hrd, hb⟩
  have H11 := Lib.hid (GP.below H10.out hb)
  have XA11 := Lib.hid (XA10.out.on hb)
  have XP11 := Lib.hid (XP10.out.on hb)
  have XB11 := Lib.hid (XB10.out.on hb)
  have XQ11 := Lib.hid (XQ10.out.on hb)
  have XC11 := Lib.hid (XC10.out.on hb)
  have O11 := Lib.hid (own_below O10.out hb)
  have P11 := Lib.hid ((P10.out.below hb).more hb.size)
  have R11 := Lib.hid (own_below R10.out hb)
  have Q11 := Lib.hid hrd
  clear hb hrd c0 c1 c2 c3 c4 cl a0 a1 a2 a3 al H10 XA10 XP10 XB10 XQ10 XC10 O10 P10 R10 HRf
  go_wp2_with (first
    | ((with_reducible refine wpList_pool_alloc (o := ⟨_, .alloc _, _, _, _, _⟩) rfl rfl ?_); intro u2 xb hu2 hs2)
    | ((with_reducible refine wpList_pool_store (o := ⟨none, .store _ _ _, _, _, _, _⟩) rfl _ _ rfl _ A11 none n 0 p11 0 h0 h1 h2 0 0 0 rfl rfl xb ?_); intro u4 xd hu4; have hv1 := hu2.grown hu4 hu2.size (fun k hk => by injection hk with hk; omega); clear xb hu2 hs2 hu4; generalize hbp : w11.heap.size = bp12 at xd ⊢; have H12 := Lib.hid (GP.below H11.out hv1); have XA12 := Lib.hid (XA11.out.on hv1); have XP12 := Lib.hid (XP11.out.on hv1); have XB12 := Lib.hid (XB11.out.on hv1); have XQ12 := Lib.hid (XQ11.out.on hv1); have XC12 := Lib.hid (XC11.out.on hv1); have O12 := Lib.hid (own_below O11.out hv1); have P12 := Lib.hid ((P11.out.below hv1).more hv1.size); have R12 := Lib.hid (own_below R11.out hv1); have Q12 := Lib.hid ((Q11.out.below hv1).more hv1.size); clear H11 XA11 XP11 XB11 XQ11 XC11 O11 P11 R11 Q11; have XD12 := Lib.hid xd; clear hv1 xd hbp; obtain ⟨d0, d0'⟩ := XA12.out.at2; obtain ⟨d1, d1'⟩ := XB12.out.at2; obtain ⟨e0, e1, e2, e3, el⟩ := XP12.out.pool; obtain ⟨f0, f1, f2, f3, fl⟩ := XQ12.out.pool; have qE := pat_neq; have qG := pat_guard)
    | fail)
  have HSm := Lib.hid (rpsame_any (some ⟨g5, 0, none⟩) A7 n p5 n p7 k0 k1 k2 k0 k1 k2 qs qs u4 (by have := HN64.out; simp only [maxLen]; omega) (by have := HN64.out; simp only [maxLen]; omega) HQL.out HQL.out (Rd.own O12.out) P12.out)
  rw [psame_refl] at HSm
  refine HSm.out.mono ?_
  rintro e v1 ⟨rfl, hb⟩
  have H13 := Lib.hid (GP.below H12.out hb)
  have XC13 := Lib.hid (XC12.out.on hb)
  have XD13 := Lib.hid (XD12.out.on hb)
  have R13 := Lib.hid (own_below R12.out hb)
  have Q13 := Lib.hid ((Q12.out.below hb).more hb.size)
  clear hb d0 d0' d1 d1' e0 e1 e2 e3 el f0 f1 f2 f3 fl H12 XA12 XB12 XP12 XQ12 XC12 XD12 O12 P12 R12 Q12 HSm
  obtain ⟨e0, e1, e2, e3, el⟩ := XC13.out.pool
  obtain ⟨f0, f1, f2, f3, f4⟩ := XD13.out.pool
  go_wp2_with fail
  have HSm := Lib.hid (rpsame_any (some ⟨g9, 0, none⟩) A11 n p9 n p11 h0 h1 h2 h0 h1 h2 rs rs v1 (by have := HN64.out; simp only [maxLen]; omega) (by have := HN64.out; simp only [maxLen]; omega) HTL.out HTL.out (Rd.own R13.out) Q13.out)
  rw [psame_refl] at HSm
  refine HSm.out.mono ?_
  rintro e v2 ⟨rfl, hb⟩
  have H14 := Lib.hid (GP.below H13.out hb)
  clear hb e0 e1 e2 e3 el f0 f1 f2 f3 f4 H13 XC13 XD13 R13 Q13 HSm qE qG
  go_wp2_with fail
  have RD := Lib.hid fun w' (h : Below v2.heap.size v2 w') => Rd.gp HR.out (GP.below H14.out h)
  have SO := Lib.hid fun w' (h : Below v2.heap.size v2 w') => (fun (g : GP w w' conv soft seq size opn A n cap h0 h1 h2) => (⟨g.1.1, g.1.2.1, g.1.2.2.1, g.1.2.2.2.1, g.1.2.2.2.2.1, g.2.1.1, g.2.1.2.1, g.2.1.2.2.1, g.2.1.2.2.2.1⟩ :
    w'.cell? ⟨w.heap.size, 0, none⟩ = some (.int .i64 conv) ∧ w'.cell? ⟨w.heap.size, 1, none⟩ = some (.int .i64 soft) ∧ w'.cell? ⟨w.heap.size, 2, none⟩ = some (.int .i64 seq) ∧ w'.cell? ⟨w.heap.size, 3, none⟩ = some (.int .i64 size) ∧ w'.cell? ⟨w.heap.size, 4, none⟩ = some (.int .i64 opn) ∧ w'.cell? ⟨w.heap.size + 1, 0, none⟩ = some (.slice A n cap) ∧ w'.cell? ⟨w.heap.size + 1, 1, none⟩ = some (.int .i64 h0) ∧ w'.cell? ⟨w.heap.size + 1, 2, none⟩ = some (.int .i64 h1) ∧ w'.cell? ⟨w.heap.size + 1, 3, none⟩ = some (.int .i64 h2))) (GP.below H14.out h)
  have HB14 := Lib.hid H14.out.2.2
  have HM0 := Lib.hid (show fl.length ≤ maxLen by have := HLs.out.1; simp only [maxLen]; omega)
  have HM1 := Lib.hid (show ul.length ≤ maxLen by have := HLs.out.2; simp only [maxLen]; omega)
  clear H14
  go_region_held3 (fun w' => w'.cell? ⟨w.heap.size, 0, none⟩ = some (.int .i64 conv) ∧ w'.cell? ⟨w.heap.size, 1, none⟩ = some (.int .i64 soft) ∧ w'.cell? ⟨w.heap.size, 2, none⟩ = some (.int .i64 seq) ∧ w'.cell? ⟨w.heap.size, 3, none⟩ = some (.int .i64 size) ∧ w'.cell? ⟨w.heap.size, 4, none⟩ = some (.int .i64 opn) ∧ w'.cell? ⟨w.heap.size + 1, 0, none⟩ = some (.slice A n cap) ∧ w'.cell? ⟨w.heap.size + 1, 1, none⟩ = some (.int .i64 h0) ∧ w'.cell? ⟨w.heap.size + 1, 2, none⟩ = some (.int .i64 h1) ∧ w'.cell? ⟨w.heap.size + 1, 3, none⟩ = some (.int .i64 h2))
    (first | exact SO.out _ B8 | exact SO.out _ B7 | exact SO.out _ B6 | exact SO.out _ B5 | exact SO.out _ B4 | exact SO.out _ B3 | exact SO.out _ B2 | exact SO.out _ B1 | exact SO.out _ (Below.refl _ _).drew)
    ((first
      | ((with_reducible refine (HFr.out _ (RD.out _ (Below.refl _ _).drew)).mono ?_); rintro e y1 ⟨V1, rfl, o1, b1⟩; obtain ⟨A1, q1, rfl⟩ := own_slice o1; have B1 : Below v2.heap.size v2 y1 := bthen (Below.refl _ _).drew b1)
      | ((with_reducible refine (HZ0.out _ (RD.out _ B1)).mono ?_); rintro e y2 ⟨V2, rfl, o2, b2⟩; obtain ⟨A2, q2, rfl⟩ := own_slice o2; have B2 : Below v2.heap.size v2 y2 := bthen B1 b2; have r1 := Rd.own (own_below o1 b2); have r2 := Rd.own o2)
      | ((with_reducible refine (isame_refl A1 A2 _ q1 q2 y2 HM0.out fl rfl _ r1 r2).mono ?_); rintro e y3 ⟨rfl, m3, rfl⟩; have B3 : Below v2.heap.size v2 (y2.drewN m3) := below_draws B2 m3)
      | ((with_reducible refine (HFu.out _ (RD.out _ B3)).mono ?_); rintro e y4 ⟨V4, rfl, o4, b4⟩; obtain ⟨A4, q4, rfl⟩ := own_slice o4; have B4 : Below v2.heap.size v2 y4 := bthen B3 b4)
      | ((with_reducible refine (HZs.out _ (RD.out _ B4)).mono ?_); rintro e y5 ⟨V5, rfl, o5, b5⟩; obtain ⟨A5, q5, rfl⟩ := own_slice o5; have B5 : Below v2.heap.size v2 y5 := bthen B4 b5; have r4 := Rd.own (own_below o4 b5); have r5 := Rd.own o5)
      | ((with_reducible refine (isame_refl A4 A5 _ q4 q5 y5 HM1.out ul rfl _ r4 r5).mono ?_); rintro e y6 ⟨rfl, m6, rfl⟩; have B6 : Below v2.heap.size v2 (y5.drewN m6) := below_draws B5 m6)
      | ((with_reducible refine (HRo.out _ _ _ (RD.out _ B6)).mono ?_); rintro e y7 ⟨rfl, b7⟩; have B7 : Below v2.heap.size v2 y7 := bthen B6 b7)
      | ((with_reducible refine (HRr.out _ _ _ (RD.out _ B7)).mono ?_); rintro e y8 ⟨rfl, b8⟩; have B8 : Below v2.heap.size v2 y8 := bthen B7 b8)))
  all_goals go_wp2
  all_goals go_ret
  all_goals exact ⟨rfl, bthen HB14.out B8⟩
end Go.Proofs.Ytnpnnejopibjcaa

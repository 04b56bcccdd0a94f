/-
  ScK
-/
import Derived.Test.YthgjlofebicpiaaMg45
import Derived.Test.YthgjlofebicpiaaMg46
/-
  The document's answer for layer 14: All.
-/
namespace Go.Proofs.Ythgjlofebicpiaa
open Go.RowKit Geom Zone Dev Word Rec Scan
set_option linter.unusedVariables false

/-- while one is put in its place: the row, the one that is put -/
structure InS (w2 W : World) (g c : Nat) (L : List Fo) (b : Nat) (fo : Fo) (k : Nat) (y : Fo) : Prop where
  own : W.ownsRow w2.heap.size 56 38 (.slice (some ⟨g, 0, none⟩) (L.length + 1) c) (L.length + 1) (fls (L.take k ++ y :: L.drop k))
  bl : Below w2.heap.size w2 W
  bx : Box W b 56 (fcs fo)
  ne : b ≠ g
theorem ins_in {L : List Fo} {k : Nat} {y : Fo} (h : ∀ f ∈ L, FIn f) (hy : FIn y) : ∀ f ∈ L.take k ++ y :: L.drop k, FIn f := fun f hf => by
  rcases List.mem_append.1 hf with h1 | h1
  · exact h f (List.mem_of_mem_take h1)
  · rcases List.mem_cons.1 h1 with rfl | h1
    · exact hy
    · exact h f (List.mem_of_mem_drop h1)
theorem ins_len {L : List Fo} {k : Nat} {y : Fo} (hk : k ≤ L.length) : (L.take k ++ y :: L.drop k).length = L.length + 1 := by simp; omega
theorem ins_set {L : List Fo} {k : Nat} {y f : Fo} (hk : k ≤ L.length) : (L.take k ++ y :: L.drop k).set k f = L.take k ++ f :: L.drop k := by
  have hl : (L.take k).length = k := by simp; omega
  rw [List.set_append_right _ _ (by omega), hl, Nat.sub_self]
  rfl
theorem ins_down {L : List Fo} {j : Nat} (hj : j < L.length) : L.take (j + 1) ++ (L[j]'hj) :: L.drop (j + 1) = L.take j ++ (L[j]'hj) :: L.drop j := by
  rw [List.take_succ_eq_append_getElem hj, List.drop_eq_getElem_cons hj, List.append_assoc]
  rfl
theorem InS.down {w2 W : World} {g c b j : Nat} {L : List Fo} {fo x : Fo} (h : InS w2 W g c L b fo (j + 1) x) (e : L.take (j + 1) ++ x :: L.drop (j + 1) = L.take j ++ x :: L.drop j) : InS w2 W g c L b fo j x :=
  ⟨by rw [← e]; exact h.own, h.bl, h.bx, h.ne⟩
theorem InS.put {w2 W W' : World} {g c b k : Nat} {L : List Fo} {fo y f : Fo} (h : InS w2 W g c L b fo k y) (hk : k ≤ L.length) (hown : W'.ownsRow w2.heap.size 56 38 (.slice (some ⟨g, 0, none⟩) (L.length + 1) c) (L.length + 1) (fls ((L.take k ++ y :: L.drop k).set k f))) (hg : W.grownBy W' (some g)) : InS w2 W' g c L b fo k f :=
  ⟨by rw [← ins_set hk]; exact hown, h.bl.grown hg h.bl.size fun j hj => by injection hj with hj; subst hj; exact (h.own.lt _ rfl).1, h.bx.same (hg.block b h.bx.lt fun e => h.ne (Option.some.inj e)), h.ne⟩
set_option maxRecDepth 100000 in
set_option maxHeartbeats 8000000 in
theorem rall_any (ep sq : Int) {w : World} {d : Nat} {T : Nat → Prop} {D : Dv} (hO : DvOk D) (ho : Od D) (hd : D.down = false) (hT : ∀ k, w.heap.size ≤ k → T k) (hI : DevIs T w d D) :
    Calls Try.prog 12 #[dp d, gvS D.conv D.soft D.seq D.size D.opn, .int .i64 ep, .int .i64 sq] w fun e w' =>
      ∃ V L, e = .returned V ∧ Tells (foundD D ep sq) L ∧ w'.ownsRow w.heap.size 56 38 V L.length (fls L) ∧ Below w.heap.size w w' := by
  obtain ⟨mp, hmp, hszp⟩ := big_size (P := Try.prog) (t := 62) (s := 64) (by kernel_rfl)
  obtain ⟨mr, hmr, hszr⟩ := big_size (P := Try.prog) (t := 50) (s := 37) (by kernel_rfl)
  obtain ⟨mf, hmf, hszf⟩ := big_size (P := Try.prog) (t := 56) (s := 38) (by kernel_rfl)
  have hmp0 : ¬ mp = 0 := by omega
  have hmr0 : ¬ mr = 0 := by omega
  have hmf0 : ¬ mf = 0 := by omega
  have HM := Lib.hid (And.intro hmp (And.intro hmr hmf))
  have HO := Lib.hid (And.intro hO (And.intro ho hd))
  have HT := Lib.hid hT
  have HI := Lib.hid hI
  have hn64 := dv_n hO
  clear hmp hmr hmf ho hd hT hI
  go_enter Try.func12, Try.ntmps12
  go_wp2_with (first
    | ((with_reducible refine wpList_box_box _ (o := ⟨some 5, .box _ _, _, _, _, _⟩) rfl _ _ rfl (gcS D.conv D.soft D.seq D.size D.opn) rfl ?_); intro w1 x0 hB1 hs1; clear hs1)
    | fail)
  have HI1 := Lib.hid (HI.out.below hB1)
  have X0 := Lib.hid x0
  have HB1 := Lib.hid hB1
  clear x0 hB1
  refine (zones_dev (T := T) (fun k hk => HT.out k (Nat.le_trans HB1.out.size hk)) HO.out.1 HI1.out).mono ?_
  rintro e w2 ⟨gz, cz, rfl, hz, hB2⟩
  have HZ := Lib.hid hz
  have HI2 := Lib.hid (HI1.out.below hB2)
  have X2 := Lib.hid (X0.out.on hB2)
  have HB2 := Lib.hid (bthen HB1.out hB2)
  clear hz hB2 HI1 X0 HB1
  go_wp2
  go_loopw [9, 11] (fun v i wr => ∃ (z : Nat) (L : List Fo), z ≤ D.n ∧ i = .int .i64 z ∧ Tells ((plsTo D z).filterMap (fnd D ep sq)) L ∧ RcS w2 wr v L) (fun _ i _ => D.n - (intOf i).toNat)
  case atStart => exact ⟨0, [], by omega, rfl, Tells.nil, ⟨World.ownsRow_nil _ _ _ _, Below.refl _ _⟩⟩
  case round =>
    obtain ⟨z, L0, hzn, rfl, htl, hst⟩ := hrel
    have HS0 := Lib.hid (And.intro htl hst)
    clear hst htl
    by_cases hlt : z < D.n
    · have hzi : (z : Int) < (D.n : Int) := by omega
      have HLz : Hid (D.L[z]? = some (D.L.getD z (0, 0))) := Lib.hid (getD_of (by have := HO.out.1.fit.1; have := HO.out.1.ns; omega))
      have HPz : Hid ((D.L.getD z (0, 0)).2 = (ptr D z : Int)) := Lib.hid (by
        have h := fit_point HO.out.1.fit HO.out.1.ok.2.2.2.1 HLz.out
        show (D.L.getD z (0, 0)).2 = ((D.L.getD z (0, 0)).2.toNat : Int)
        omega)
      have HC1 := Lib.hid fun (W : World) (hb : Below w2.heap.size w2 W) => show W.cell? ⟨gz, z * 2 + 1, none⟩ = some (.int .i64 (ptr D z : Int)) from by
        have := ((Rd.own HZ.out).below hb).cell0 (zc_get1 HLz.out)
        rwa [HPz.out] at this
      have HPt := Lib.hid (ptr_le HO.out.1 hlt)
      clear HPz
      go_wp2_with fail
      go_loopw [9, 12] (fun v i wr => ∃ (o : Nat) (L : List Fo), o ≤ ptr D z ∧ i = .int .i64 o ∧ Tells ((plsTo D z ++ zrow z o).filterMap (fnd D ep sq)) L ∧ RcS w2 wr v L) (fun _ i _ => ptr D z - (intOf i).toNat)
      case atStart => exact ⟨0, L0, by omega, rfl, by rw [zrow_zero, List.append_nil]; exact HS0.out.1, HS0.out.2⟩
      case round =>
        clear HS0
        obtain ⟨o, L, hop, rfl, htl, hst⟩ := hrel
        have HS := Lib.hid hst
        have HTl := Lib.hid htl
        have c1 := HC1.out wr hst.bl
        have hpt : (ptr D z : Int) ≤ 256 := by have := HPt.out; omega
        clear hst htl
        by_cases hlo : o < ptr D z
        · have hoi : (o : Int) < (ptr D z : Int) := by omega
          have HRd := Lib.hid fun (W : World) (hb : Below w2.heap.size w2 W) => (readok_any (T := T) ((z : Int), (o : Int)) ⟨w64 (by omega) (by omega), w64 (by omega) (by have := HPt.out; omega)⟩ HO.out.1 (HI2.out.below hb) HO.out.2.2 (ptr_readE HO.out.1 HO.out.2.2 hlt hlo) :
            Calls Try.prog 29 #[dp d, .agg #[.int .i64 (z : Int), .int .i64 (o : Int)]] W fun x w' => x = .returned (.tuple #[.agg (bs (pageD D ((z : Int), (o : Int)))).toArray, .int .i64 0]) ∧ Below W.heap.size W w')
          have HP64 : Hid ((pageD D ((z : Int), (o : Int))).length = 64 ∧ octets (pageD D ((z : Int), (o : Int)))) := Lib.hid ⟨page_len HO.out.1 _, page_oct HO.out.1 HO.out.2.1 _⟩
          have HSn := Lib.hid (row_snoc (D := D) (epoch := ep) (seq := sq) (z := z) (o := o))
          have HCn : Hid (L.length ≤ 20000) := Lib.hid (by rw [HTl.out.length]; exact row_count (epoch := ep) (seq := sq) HO.out.1 hlt hop)
          have HBe := Lib.hid (row_below (epoch := ep) (seq := sq) HO.out.1 hlt hlo)
          have HIn : Hid (∀ x ∈ L, FIn x) := Lib.hid fun x hx => found_in HO.out.1 HO.out.2.1 x (HTl.out.1.mem_iff.1 hx)
          have HFy := Lib.hid fun h1 h2 => fnd_yes (D := D) (ep := ep) (sq := sq) (a := ((z : Int), (o : Int))) h1 h2
          have HFw := Lib.hid fun h1 => fnd_why (D := D) (ep := ep) (sq := sq) (a := ((z : Int), (o : Int))) h1
          have HFn := Lib.hid fun h1 => fnd_not (D := D) (ep := ep) (sq := sq) (a := ((z : Int), (o : Int))) h1
          generalize (plsTo D z ++ zrow z o).filterMap (fnd D ep sq) = l at *
          have HVb := Lib.hid fun g hg => (HS.out.own.lt g hg).2
          go_wp2_with fail
          refine (HRd.out wr HS.out.bl).mono ?_
          rintro e w5 ⟨rfl, hB5⟩
          have HS5 := Lib.hid (HS.out.on hB5)
          clear hB5 HRd HS HVb
          generalize pageD D ((z : Int), (o : Int)) = p at *
          go_wp2_with (first
            | ((with_reducible refine wpList_pg_alloc (o := ⟨some 13, .alloc _, _, _, _, _⟩) rfl rfl ?_); intro w6 x6 hB6 hs6; clear hs6)
            | ((with_reducible refine wpList_pg_store (o := ⟨none, .store _ (.tmp 13) _, _, _, _, _⟩) rfl _ _ rfl w5.heap.size p pg0 HP64.out.1 rfl rfl rfl x6 ?_); go_loud (intro w7 x7 hg7 hs7; have K7 := below_stored hB6 hg7 hB6.size (Nat.le_refl _); have HS7 := Lib.hid (HS5.out.on K7); have l7 := big_load0 Try.prog w5.heap.size 0 (bs p) mp (by rw [bs_length, HP64.out.1, HM.out.1]) _ x7.range0; clear x6 hB6 x7 hg7 hs7 K7 HS5; generalize w5.heap.size = bp at *))
            | fail)
          refine (rread_any p _ HP64.out.1 HP64.out.2).mono ?_
          rw [read_eq HP64.out.1 HP64.out.2]
          rintro e w8 ⟨rfl, hB8⟩
          have HS8 := Lib.hid (HS7.out.on hB8)
          have HRi := Lib.hid (read_in HP64.out.1 HP64.out.2)
          clear hB8 HS7 l7
          generalize (readS p).1 = r at *
          generalize (readS p).2 = why at *
          have HWt := Lib.hid (show wantB ep sq r = (decide (r.epoch = ep) && decide (sq < r.seq)) from rfl)
          by_cases hwhy : why = 0
          · have hwq : (why != 0) = false := by simp [hwhy]
            have HFy2 := Lib.hid (HFy.out hwhy)
            by_cases hep : r.epoch = ep
            · have heq : (r.epoch != ep) = false := by simp [hep]
              by_cases hsq : sq < r.seq
              · have hsd : decide (r.seq ≤ sq) = false := by simp; omega
                clear hwhy HFy HFw
                obtain ⟨fo, hfo⟩ : ∃ fo : Fo, fo = ⟨Geom.num D.conv D.seq D.size (z : Int) (o : Int), r⟩ := ⟨_, rfl⟩
                have HE2 : Hid (List.filterMap (fnd D ep sq) (plsTo D z ++ zrow z (o + 1)) = l ++ [fo]) := Lib.hid (by rw [HSn.out, HFy2.out (by rw [HWt.out, decide_eq_true hep, decide_eq_true hsq]; rfl), hfo]; rfl)
                have HFi : Hid (FIn fo) := Lib.hid (by rw [hfo]; exact HRi.out)
                have HFl := Lib.hid (fcs_length HFi.out)
                have hfp : Geom.num D.conv D.seq D.size (z : Int) (o : Int) = fo.pl := by rw [hfo]
                have hfr : r = fo.r := by rw [hfo]
                have HBf : Hid (∀ x ∈ L, x.pl < fo.pl) := Lib.hid fun x hx => by rw [← hfp]; exact HBe.out x (HTl.out.1.mem_iff.1 hx)
                have HNm := Lib.hid fun W => rnum_any D.conv D.soft D.seq D.size D.opn (z : Int) (o : Int) W HO.out.1.ok.some
                rw [hfp] at HNm
                subst hfr
                clear hfo hfp HFy2 HFn HSn HBe HWt hep hsq
                go_wp2_with (first
                  | ((with_reducible refine wpList_rc_alloc (o := ⟨some 15, .alloc _, _, _, _, _⟩) rfl rfl ?_); intro w9 x9 hB9 hs9; clear hs9)
                  | ((with_reducible refine wpList_rc_store (o := ⟨none, .store _ (.tmp 15) _, _, _, _, _⟩) rfl _ _ rfl w8.heap.size fo.r rc0 HRi.out rc0_in rfl rfl x9 ?_); go_loud (intro w10 x10 hg10 hs10; have K10 := below_stored hB9 hg10 hB9.size (Nat.le_refl _); have HS10 := Lib.hid (HS8.out.on K10); have X10 := Lib.hid x10; have k1 := x10.rc.2.1; have k2 := x10.rc.2.2.1; clear x9 hB9 x10 hg10 hs10 K10 HS8; generalize w8.heap.size = br at *))
                  | fail)

                have SO := Lib.hid fun (w' : World) (hb : Below w10.heap.size w10 w') => (⟨X10.out.on hb, (X2.out.below (bthen HS10.out.bl hb) X2.out.lt).cell 0, (X2.out.below (bthen HS10.out.bl hb) X2.out.lt).cell 1, (X2.out.below (bthen HS10.out.bl hb) X2.out.lt).cell 2, (X2.out.below (bthen HS10.out.bl hb) X2.out.lt).cell 3, (X2.out.below (bthen HS10.out.bl hb) X2.out.lt).cell 4⟩ : Box w' br 50 (rcs fo.r) ∧ w'.cell? ⟨w.heap.size, 0, none⟩ = some (.int .i64 D.conv) ∧ w'.cell? ⟨w.heap.size, 1, none⟩ = some (.int .i64 D.soft) ∧ w'.cell? ⟨w.heap.size, 2, none⟩ = some (.int .i64 D.seq) ∧ w'.cell? ⟨w.heap.size, 3, none⟩ = some (.int .i64 D.size) ∧ w'.cell? ⟨w.heap.size, 4, none⟩ = some (.int .i64 D.opn))
                have LA := Lib.hid fun (W : World) (h : Box W br 50 (rcs fo.r)) => big_load0 Try.prog br 0 (rcs fo.r) mr (by rw [rcs_length HRi.out.1, HM.out.2.1]) W h.range0
                apply wp_meetFo (fun w' b => RcS w2 w' u9 L ∧ Box w' b 56 (fcs fo) ∧ w10.heap.size ≤ b)
                · refine wp_region_held_drew (S := (fun w' => Box w' br 50 (rcs fo.r) ∧ w'.cell? ⟨w.heap.size, 0, none⟩ = some (.int .i64 D.conv) ∧ w'.cell? ⟨w.heap.size, 1, none⟩ = some (.int .i64 D.soft) ∧ w'.cell? ⟨w.heap.size, 2, none⟩ = some (.int .i64 D.seq) ∧ w'.cell? ⟨w.heap.size, 3, none⟩ = some (.int .i64 D.size) ∧ w'.cell? ⟨w.heap.size, 4, none⟩ = some (.int .i64 D.opn))) (by kernel_rfl) (SO.out _ (Below.refl _ _).drew) (fun hHeld => ?_)
                  refine wpAnyH_take (i := 0) (oi := ⟨some 63, .load _ _, _, _, _, _⟩) (v := ?v158) rfl (by kernel_rfl) (by kernel_rfl) (by kernel_rfl) (fun _ _ _ h => h) (Or.inl ⟨by rfl, ?hy158⟩) (by assumption) ?rest158
                  case hy158 =>
                    intro w hSw
                    obtain ⟨_, hS0, hS1, hS2, hS3, hS4⟩ := hSw
                    go_simp
                    try with_reducible rfl
                  try simp only [Act.put, List.setIfInBounds_toArray, List.set_cons_zero, List.set_cons_succ]
                  refine wpAnyH_take (i := 1) (oi := ⟨some 64, .move _, _, _, _, _⟩) (v := ?v159) rfl (by kernel_rfl) (by kernel_rfl) (by kernel_rfl) (fun _ _ _ h => h) (Or.inl ⟨by rfl, ?hy159⟩) (by assumption) ?rest159
                  case hy159 =>
                    intro w hSw

                    go_simp
                    try with_reducible rfl
                  try simp only [Act.put, List.setIfInBounds_toArray, List.set_cons_zero, List.set_cons_succ]
                  refine wpAnyH_take (i := 2) (oi := ⟨some 65, .move _, _, _, _, _⟩) (v := ?v160) rfl (by kernel_rfl) (by kernel_rfl) (by kernel_rfl) (fun _ _ _ h => h) (Or.inl ⟨by rfl, ?hy160⟩) (by assumption) ?rest160
                  case hy160 =>
                    intro w hSw

                    go_simp
                    try with_reducible rfl
                  try simp only [Act.put, List.setIfInBounds_toArray, List.set_cons_zero, List.set_cons_succ]
                  refine wpAnyH_take (i := 3) (oi := ⟨some 66, .build _ _, _, _, _, _⟩) (v := ?v161) rfl (by kernel_rfl) (by kernel_rfl) (by kernel_rfl) (fun _ _ _ h => h) (Or.inl ⟨by rfl, ?hy161⟩) (by assumption) ?rest161
                  case hy161 =>
                    intro w hSw

                    go_simp
                    try with_reducible rfl
                  try simp only [Act.put, List.setIfInBounds_toArray, List.set_cons_zero, List.set_cons_succ]
                  refine wpAnyH_take (i := 5) (oi := ⟨some 68, .load _ _, _, _, _, _⟩) (v := ?v162) rfl (by kernel_rfl) (by kernel_rfl) (by kernel_rfl) (fun _ _ _ h => h) (Or.inl ⟨by rfl, ?hy162⟩) (by assumption) ?rest162
                  case hy162 =>
                    intro w hSw
                    have ca := LA.out _ hSw.1
                    go_simp
                    try with_reducible rfl
                  try simp only [Act.put, List.setIfInBounds_toArray, List.set_cons_zero, List.set_cons_succ]
                  refine wpAnyH_ready (rs := [4, 7]) (by kernel_rfl) (by simp) ?_
                  refine AllReadyH.cons (o := ⟨some 67, .call _, _, _, _, _⟩) rfl (fun K hK => ?_) (AllReadyH.cons (o := ⟨some 17, .alloc _, _, _, _, _⟩) rfl (fun K hK => ?_) AllReadyH.nil)
                  · go_simp
                    refine (HNm.out _).mono ?_
                    rintro e w12 ⟨rfl, b1⟩
                    have Bw12 : Below w10.heap.size w10 w12 := bthen (Below.refl _ _).drew b1
                    go_wp2_with fail
                    clear hHeld
                    refine hK.out _ _ (SO.out _ Bw12) (fun hHeld => ?_)
                    clear hK K
                    try simp only [Act.put, List.setIfInBounds_toArray, List.set_cons_zero, List.set_cons_succ]
                    refine wpAnyH_ready (rs := [6, 7]) (by kernel_rfl) (by simp) ?_
                    refine AllReadyH.cons (o := ⟨some 69, .build _ _, _, _, _, _⟩) rfl (fun K hK => ?_) (AllReadyH.cons (o := ⟨some 17, .alloc _, _, _, _, _⟩) rfl (fun K hK => ?_) AllReadyH.nil)
                    · refine step_fo_build w12 (by rfl) _ _ (by rfl) fo HFi.out (by rfl) (by rfl) ?_
                      clear hHeld
                      refine hK.out _ _ (SO.out _ Bw12) (fun hHeld => ?_)
                      clear hK K
                      try simp only [Act.put, List.setIfInBounds_toArray, List.set_cons_zero, List.set_cons_succ]
                      refine wpAnyH_ready (rs := [7]) (by kernel_rfl) (by simp) ?_
                      refine AllReadyH.cons (o := ⟨some 17, .alloc _, _, _, _, _⟩) rfl (fun K hK => ?_) AllReadyH.nil
                      refine step_fo_alloc (w := w12) (by rfl) (by rfl) ?_
                      intro w13 xA bA sA
                      have Bw13 : Below w10.heap.size w10 w13 := bthen Bw12 bA
                      have XS := xA
                      clear hHeld
                      refine hK.out _ _ (SO.out _ Bw13) (fun hHeld => ?_)
                      clear hK K
                      try simp only [Act.put, List.setIfInBounds_toArray, List.set_cons_zero, List.set_cons_succ]
                      refine wpAnyH_ready (rs := [8]) (by kernel_rfl) (by simp) ?_
                      refine AllReadyH.cons (o := ⟨none, .store _ _ _, _, _, _, _⟩) rfl (fun K hK => ?_) AllReadyH.nil
                      refine step_fo_store (w := w13) (by rfl) _ _ (by rfl) w12.heap.size fo fo0 HFi.out fo0_in (by rfl) (by rfl) XS ?_
                      intro wZ xZ gZ sZ
                      have BZ : Below w10.heap.size w10 wZ := Bw13.trans (below_grown gZ Bw12.size Bw13.size)
                      clear hHeld
                      refine hK.out _ _ (SO.out _ BZ) (fun hHeld => ?_)
                      clear hK K
                      try simp only [Act.put]
                      refine wpAnyH_done (by kernel_rfl) ?_ _
                      have F := And.intro (HS10.out.on BZ) (And.intro xZ (Bw12.size : w10.heap.size ≤ w12.heap.size))
                      clear hHeld
                      generalize wZ = wq at F ⊢
                      generalize w12.heap.size = bq at F ⊢
                      exact ⟨bq, F, rfl⟩
                    · refine step_fo_alloc (w := w12) (by rfl) (by rfl) ?_
                      intro w13 xA bA sA
                      have Bw13 : Below w10.heap.size w10 w13 := bthen Bw12 bA
                      have XS := xA
                      clear hHeld
                      refine hK.out _ _ (SO.out _ Bw13) (fun hHeld => ?_)
                      clear hK K
                      try simp only [Act.put, List.setIfInBounds_toArray, List.set_cons_zero, List.set_cons_succ]
                      refine wpAnyH_ready (rs := [6]) (by kernel_rfl) (by simp) ?_
                      refine AllReadyH.cons (o := ⟨some 69, .build _ _, _, _, _, _⟩) rfl (fun K hK => ?_) AllReadyH.nil
                      refine step_fo_build w13 (by rfl) _ _ (by rfl) fo HFi.out (by rfl) (by rfl) ?_
                      clear hHeld
                      refine hK.out _ _ (SO.out _ Bw13) (fun hHeld => ?_)
                      clear hK K
                      try simp only [Act.put, List.setIfInBounds_toArray, List.set_cons_zero, List.set_cons_succ]
                      refine wpAnyH_ready (rs := [8]) (by kernel_rfl) (by simp) ?_
                      refine AllReadyH.cons (o := ⟨none, .store _ _ _, _, _, _, _⟩) rfl (fun K hK => ?_) AllReadyH.nil
                      refine step_fo_store (w := w13) (by rfl) _ _ (by rfl) w12.heap.size fo fo0 HFi.out fo0_in (by rfl) (by rfl) XS ?_
                      intro wZ xZ gZ sZ
                      have BZ : Below w10.heap.size w10 wZ := Bw13.trans (below_grown gZ Bw12.size Bw13.size)
                      clear hHeld
                      refine hK.out _ _ (SO.out _ BZ) (fun hHeld => ?_)
                      clear hK K
                      try simp only [Act.put]
                      refine wpAnyH_done (by kernel_rfl) ?_ _
                      have F := And.intro (HS10.out.on BZ) (And.intro xZ (Bw12.size : w10.heap.size ≤ w12.heap.size))
                      clear hHeld
                      generalize wZ = wq at F ⊢
                      generalize w12.heap.size = bq at F ⊢
                      exact ⟨bq, F, rfl⟩
                  · refine step_fo_alloc (w := w10.drew) (by rfl) (by rfl) ?_
                    intro w13 xA bA sA
                    have Bw13 : Below w10.heap.size w10 w13 := bthen (Below.refl _ _).drew bA
                    have XS := xA
                    clear hHeld
                    refine hK.out _ _ (SO.out _ Bw13) (fun hHeld => ?_)
                    clear hK K
                    try simp only [Act.put, List.setIfInBounds_toArray, List.set_cons_zero, List.set_cons_succ]
                    refine wpAnyH_ready (rs := [4]) (by kernel_rfl) (by simp) ?_
                    refine AllReadyH.cons (o := ⟨some 67, .call _, _, _, _, _⟩) rfl (fun K hK => ?_) AllReadyH.nil
                    go_simp
                    refine (HNm.out _).mono ?_
                    rintro e w14 ⟨rfl, b1⟩
                    have Bw14 : Below w10.heap.size w10 w14 := bthen Bw13 b1
                    go_wp2_with fail
                    have XS := xA.on b1
                    clear hHeld
                    refine hK.out _ _ (SO.out _ Bw14) (fun hHeld => ?_)
                    clear hK K
                    try simp only [Act.put, List.setIfInBounds_toArray, List.set_cons_zero, List.set_cons_succ]
                    refine wpAnyH_ready (rs := [6]) (by kernel_rfl) (by simp) ?_
                    refine AllReadyH.cons (o := ⟨some 69, .build _ _, _, _, _, _⟩) rfl (fun K hK => ?_) AllReadyH.nil
                    refine step_fo_build w14 (by rfl) _ _ (by rfl) fo HFi.out (by rfl) (by rfl) ?_
                    clear hHeld
                    refine hK.out _ _ (SO.out _ Bw14) (fun hHeld => ?_)
                    clear hK K
                    try simp only [Act.put, List.setIfInBounds_toArray, List.set_cons_zero, List.set_cons_succ]
                    refine wpAnyH_ready (rs := [8]) (by kernel_rfl) (by simp) ?_
                    refine AllReadyH.cons (o := ⟨none, .store _ _ _, _, _, _, _⟩) rfl (fun K hK => ?_) AllReadyH.nil
                    refine step_fo_store (w := w14) (by rfl) _ _ (by rfl) w10.heap.size fo fo0 HFi.out fo0_in (by rfl) (by rfl) XS ?_
                    intro wZ xZ gZ sZ
                    have BZ : Below w10.heap.size w10 wZ := Bw14.trans (below_grown gZ (Nat.le_refl _) Bw14.size)
                    clear hHeld
                    refine hK.out _ _ (SO.out _ BZ) (fun hHeld => ?_)
                    clear hK K
                    try simp only [Act.put]
                    refine wpAnyH_done (by kernel_rfl) ?_ _
                    have F := And.intro (HS10.out.on BZ) (And.intro xZ (Nat.le_refl _ : w10.heap.size ≤ w10.heap.size))
                    clear hHeld
                    generalize wZ = wq at F ⊢
                    generalize w10.heap.size = bq at F ⊢
                    exact ⟨bq, F, rfl⟩
                rintro w14 b17 ⟨hst14, hx14, hge14⟩
                have HNe : Hid (∀ g, u9.ownBlock = some g → b17 ≠ g) := Lib.hid fun g hg => by have := (HS10.out.own.lt g hg).2; omega
                have HS14 := Lib.hid hst14
                have X14 := Lib.hid hx14
                have l14 := big_load0 Try.prog b17 0 (fcs fo) mf (by rw [HFl.out, HM.out.2.2]) _ hx14.range0
                clear hst14 hx14 hge14 SO LA HNm HS10 X10
                obtain ⟨A9, c9, rfl⟩ := own_slice HS14.out.own
                go_wp2_with (first
                  | ((with_reducible refine wpList_fo_slice1 (o := ⟨some 74, .buildSlice _ _ _, _, _, _, _⟩) rfl _ rfl (fcs fo) HFl.out rfl ?_))
                  | (at_builtin; go_loud (refine wpList_append_new2 rfl _ _ _ rfl w2.heap.size 56 _ 38 80 elemF (.slice A9 L.length c9) _ _ rfl (fcs fo) rfl HS14.out.own HFl.out (fcs_one fo) (by have := HCn.out; simp only [maxLen]; omega) (by have := HCn.out; omega) HS14.out.bl.size ?_); go_loud (intro v1 w15 hown1 hg1 hv1; have HS15 := Lib.hid (HS14.out.add hown1 hg1); have X15 := Lib.hid (X14.out.same (hg1.block b17 X14.out.lt fun e => HNe.out b17 e.symm rfl)); have HNw := Lib.hid fun (g : Nat) (hg : v1.ownBlock = some g) => (show b17 ≠ g from by rcases hv1 with h1 | h1; exact HNe.out g (h1.symm.trans hg); (rw [hg] at h1; injection h1 with h1; have := X14.out.lt; omega)); clear hown1 hg1 hv1 l14 HS14 X14))
                  | fail)
                obtain ⟨A1, c, rfl⟩ := own_slice HS15.out.own
                obtain ⟨g, rfl, _, _⟩ := own_at HS15.out.own (by simp)
                have hn1 : L.length + [fo].length = L.length + 1 := rfl
                rw [List.length_append, hn1]
                clear hn1
                have HI0 : Hid (InS w2 w15 g c L b17 fo L.length fo) := Lib.hid ⟨by have h := HS15.out.own; rw [List.length_append] at h; rw [List.take_length, List.drop_length]; exact h, HS15.out.bl, X15.out, HNw.out g rfl⟩
                clear HS15 X15 HNw HNe
                go_loopw [18] (fun kv wr => ∃ (k : Nat) (y : Fo), k ≤ L.length ∧ kv = .int .i64 k ∧ FIn y ∧ InS w2 wr g c L b17 fo k y ∧ ∀ j (hj : j < L.length), k ≤ j → fo.r.seq < (L[j]'hj).r.seq) (fun kv _ => (intOf kv).toNat)
                case atStart => exact ⟨L.length, fo, Nat.le_refl _, rfl, HFi.out, HI0.out, fun j hj h => by omega⟩
                case round =>
                  clear HI0
                  obtain ⟨k, y, hk, rfl, hy, hst, hab⟩ := hrel
                  have HSt := Lib.hid (And.intro hy (And.intro hst hab))
                  have HK := Lib.hid hk
                  have c17 := hst.bx.fo.2
                  have l17 := big_load0 Try.prog b17 0 (fcs fo) mf (by rw [HFl.out, HM.out.2.2]) _ hst.bx.range0
                  clear hy hst hab hk
                  by_cases hk0 : 0 < k
                  · obtain ⟨j, rfl⟩ : ∃ j, k = j + 1 := ⟨k - 1, by omega⟩
                    have hjl : j < L.length := by have := HK.out; omega
                    have hjI : (j : Int) < (L.length : Int) := by omega
                    have hin := ins_in (k := j + 1) HIn.out HSt.out.1
                    have hlj : (L.take (j + 1) ++ y :: L.drop (j + 1))[j]? = some (L[j]'hjl) := by
                      rw [List.getElem?_append_left (by simp; omega), List.getElem?_take, if_pos (by omega)]
                      exact List.getElem?_eq_getElem hjl
                    have HX := Lib.hid (HIn.out _ (List.getElem_mem hjl))
                    have HDn := Lib.hid (ins_down hjl)
                    have HJL := Lib.hid hjl
                    obtain ⟨x, hxx⟩ : ∃ x, x = (L[j]'hjl) := ⟨_, rfl⟩
                    have HXX : Hid ((L[j]'HJL.out) = x) := Lib.hid hxx.symm
                    rw [← hxx] at hlj HX HDn
                    have hLb : (L.length : Int) ≤ 20000 := by have := HCn.out; omega
                    have c3 : wr.cell? ⟨g, j * mf + 1 + 2, none⟩ = some (.int .i64 x.r.seq) := by
                      rw [HM.out.2.2]
                      exact (Rd.own HSt.out.2.1.own).cell0 (fls_at hin hlj (j := 3) rfl)
                    have hrg : wr.rangeAt g (j * mf) (fcs x) := fun q v hq => by
                      rw [HM.out.2.2]
                      exact (Rd.own HSt.out.2.1.own).cell0 (fls_at hin hlj hq)
                    clear hin hlj hk0 hjl hxx
                    by_cases hgt : fo.r.seq < x.r.seq
                    · have hgq : decide (fo.r.seq < x.r.seq) = true := decide_eq_true hgt
                      have HAb : Hid (∀ q (hj : q < L.length), j ≤ q → fo.r.seq < (L[q]'hj).r.seq) := Lib.hid fun q hq hjq => by
                        by_cases e : q = j
                        · subst e; rw [show (L[q]'hq) = x from HXX.out]; exact hgt
                        · exact HSt.out.2.2 q hq (by omega)
                      clear hgt
                      have HW := Lib.hid fun q : Nat => show InS w2 (wr.drewN q) g c L b17 fo (j + 1) y ∧ (loadCellsFrom ⟨g, j * mf, none⟩ 0 mf #[]).run Try.prog (wr.drewN q) = .ok (fcs x).toArray (wr.drewN q) from ⟨⟨HSt.out.2.1.own, below_draws HSt.out.2.1.bl q, HSt.out.2.1.bx, HSt.out.2.1.ne⟩, big_load0 Try.prog g (j * mf) (fcs x) mf (by rw [fcs_length HX.out, HM.out.2.2]) (wr.drewN q) hrg⟩
                      go_wp2_with fail
                      go_quiet (fail)
                      obtain ⟨hst16, hld16⟩ := HW.out nq
                      generalize wr.drewN nq = wq at hst16 hld16 ⊢
                      have HS16 := Lib.hid (And.intro hst16 (ins_in (k := j + 1) HIn.out HSt.out.1))
                      clear hst16 HW c17 l17 c3 hrg
                      go_wp2_with (first
                        | ((with_reducible refine wpList_fo_put (o := ⟨none, .store _ _ _, _, _, _, _⟩) rfl _ _ rfl HS16.out.1.own HS16.out.2 (ins_len HK.out) (show j + 1 < L.length + 1 by have := HJL.out; omega) x HX.out HM.out.2.2 rfl rfl ?_); go_loud (intro w17 hown17 hg17 hs17; have HS17 := Lib.hid ((HS16.out.1.put HK.out hown17 hg17).down HDn.out); clear hown17 hg17 hs17 hld16 HS16))
                        | fail)
                      go_roundw
                      case rel => exact ⟨j, x, by have := HJL.out; omega, by go_num, HX.out, HS17.out, HAb.out⟩
                      case measure => first | (simp [intOf]; done) | (simp [intOf]; omega)
                    · have hgq : decide (fo.r.seq < x.r.seq) = false := decide_eq_false hgt
                      have HT2 : Hid (Tells (l ++ [fo]) (L.take (j + 1) ++ fo :: L.drop (j + 1))) := Lib.hid (HTl.out.put HK.out HBf.out HSt.out.2.2 fun _ => by
                        show ¬ fo.r.seq < (L[j]'_).r.seq
                        rw [show (L[j]'_) = x from HXX.out]
                        exact hgt)
                      clear hgt
                      have HW := Lib.hid fun q : Nat => show InS w2 (wr.drewN q) g c L b17 fo (j + 1) y ∧ (loadCellsFrom ⟨b17, 0, none⟩ 0 mf #[]).run Try.prog (wr.drewN q) = .ok (fcs fo).toArray (wr.drewN q) from ⟨⟨HSt.out.2.1.own, below_draws HSt.out.2.1.bl q, HSt.out.2.1.bx, HSt.out.2.1.ne⟩, big_load0 Try.prog b17 0 (fcs fo) mf (by rw [HFl.out, HM.out.2.2]) (wr.drewN q) HSt.out.2.1.bx.range0⟩
                      go_wp2_with fail
                      go_quiet (fail)
                      obtain ⟨hst16, hld16⟩ := HW.out nq
                      generalize wr.drewN nq = wq at hst16 hld16 ⊢
                      have HS16 := Lib.hid (And.intro hst16 (ins_in (k := j + 1) HIn.out HSt.out.1))
                      clear hst16 HW c17 l17
                      go_wp2_with (first
                        | ((with_reducible refine wpList_fo_put (o := ⟨none, .store _ _ _, _, _, _, _⟩) rfl _ _ rfl HS16.out.1.own HS16.out.2 (ins_len HK.out) (show j + 1 < L.length + 1 by have := HK.out; omega) fo HFi.out HM.out.2.2 rfl rfl ?_); go_loud (intro w17 hown17 hg17 hs17; have HS17 := Lib.hid (HS16.out.1.put HK.out hown17 hg17); clear hown17 hg17 hs17 hld16 HS16))
                        | fail)
                      go_roundw
                      case rel => exact ⟨o + 1, L.take (j + 1) ++ fo :: L.drop (j + 1), by omega, by go_num, by rw [HE2.out]; exact HT2.out, ⟨by rw [ins_len HK.out]; exact HS17.out.own, HS17.out.bl⟩⟩
                      case measure => first | (simp [intOf]; done) | (simp [intOf]; omega)

                  · have HT2 : Hid (Tells (l ++ [fo]) (L.take k ++ fo :: L.drop k)) := Lib.hid (HTl.out.put HK.out HBf.out HSt.out.2.2 fun h => absurd h hk0)
                    have HW := Lib.hid fun q : Nat => show InS w2 (wr.drewN q) g c L b17 fo k y ∧ (loadCellsFrom ⟨b17, 0, none⟩ 0 mf #[]).run Try.prog (wr.drewN q) = .ok (fcs fo).toArray (wr.drewN q) from ⟨⟨HSt.out.2.1.own, below_draws HSt.out.2.1.bl q, HSt.out.2.1.bx, HSt.out.2.1.ne⟩, big_load0 Try.prog b17 0 (fcs fo) mf (by rw [HFl.out, HM.out.2.2]) (wr.drewN q) HSt.out.2.1.bx.range0⟩
                    have hkq : decide (0 < k) = false := decide_eq_false hk0
                    have hLb : (L.length : Int) ≤ 20000 := by have := HCn.out; omega
                    have hkI : (k : Int) < (L.length : Int) + 1 := by have := HK.out; omega
                    clear hk0
                    go_wp2_with fail
                    go_quiet (fail)
                    obtain ⟨hst16, hld16⟩ := HW.out nq
                    generalize wr.drewN nq = wq at hst16 hld16 ⊢
                    have HS16 := Lib.hid (And.intro hst16 (ins_in (k := k) HIn.out HSt.out.1))
                    clear hst16 HW c17 l17
                    go_wp2_with (first
                      | ((with_reducible refine wpList_fo_put (o := ⟨none, .store _ _ _, _, _, _, _⟩) rfl _ _ rfl HS16.out.1.own HS16.out.2 (ins_len HK.out) (show k < L.length + 1 by have := HK.out; omega) fo HFi.out HM.out.2.2 rfl rfl ?_); go_loud (intro w17 hown17 hg17 hs17; have HS17 := Lib.hid (HS16.out.1.put HK.out hown17 hg17); clear hown17 hg17 hs17 hld16 HS16))
                      | fail)
                    go_roundw
                    case rel => exact ⟨o + 1, L.take (k) ++ fo :: L.drop (k), by omega, by go_num, by rw [HE2.out]; exact HT2.out, ⟨by rw [ins_len HK.out]; exact HS17.out.own, HS17.out.bl⟩⟩
                    case measure => first | (simp [intOf]; done) | (simp [intOf]; omega)

              · have hsd : decide (r.seq ≤ sq) = true := by simp; omega
                have hwb : wantB ep sq r = false := by rw [HWt.out, decide_eq_false hsq]; simp
                have HE2 : Hid (List.filterMap (fnd D ep sq) (plsTo D z ++ zrow z (o + 1)) = l) := Lib.hid (by rw [HSn.out, HFn.out hwb]; simp)
                clear hwb hep hsq hwhy HFy2 HFy HFw HFn HSn HBe HWt
                go_wp2_with (first
                  | ((with_reducible refine wpList_rc_alloc (o := ⟨some 15, .alloc _, _, _, _, _⟩) rfl rfl ?_); intro w9 x9 hB9 hs9; clear hs9)
                  | ((with_reducible refine wpList_rc_store (o := ⟨none, .store _ (.tmp 15) _, _, _, _, _⟩) rfl _ _ rfl w8.heap.size r rc0 HRi.out rc0_in rfl rfl x9 ?_); go_loud (intro w10 x10 hg10 hs10; have K10 := below_stored hB9 hg10 hB9.size (Nat.le_refl _); have HS10 := Lib.hid (HS8.out.on K10); have X10 := Lib.hid x10; have k1 := x10.rc.2.1; have k2 := x10.rc.2.2.1; clear x9 hB9 x10 hg10 hs10 K10 HS8; generalize w8.heap.size = br at *))
                  | fail)
                go_roundw
                case rel => exact ⟨o + 1, L, by omega, by go_num, by rw [HE2.out]; exact HTl.out, HS10.out⟩
                case measure => first | (simp [intOf]; done) | (simp [intOf]; omega)
            · have heq : (r.epoch != ep) = true := by simp [hep]
              have hwb : wantB ep sq r = false := by rw [HWt.out, decide_eq_false hep]; simp
              have HE2 : Hid (List.filterMap (fnd D ep sq) (plsTo D z ++ zrow z (o + 1)) = l) := Lib.hid (by rw [HSn.out, HFn.out hwb]; simp)
              clear hwb hep hwhy HFy2 HFy HFw HFn HSn HBe HWt
              go_wp2_with (first
                | ((with_reducible refine wpList_rc_alloc (o := ⟨some 15, .alloc _, _, _, _, _⟩) rfl rfl ?_); intro w9 x9 hB9 hs9; clear hs9)
                | ((with_reducible refine wpList_rc_store (o := ⟨none, .store _ (.tmp 15) _, _, _, _, _⟩) rfl _ _ rfl w8.heap.size r rc0 HRi.out rc0_in rfl rfl x9 ?_); go_loud (intro w10 x10 hg10 hs10; have K10 := below_stored hB9 hg10 hB9.size (Nat.le_refl _); have HS10 := Lib.hid (HS8.out.on K10); have X10 := Lib.hid x10; have k1 := x10.rc.2.1; have k2 := x10.rc.2.2.1; clear x9 hB9 x10 hg10 hs10 K10 HS8; generalize w8.heap.size = br at *))
                | fail)
              go_roundw
              case rel => exact ⟨o + 1, L, by omega, by go_num, by rw [HE2.out]; exact HTl.out, HS10.out⟩
              case measure => first | (simp [intOf]; done) | (simp [intOf]; omega)
          · have hwq : (why != 0) = true := by simp [hwhy]
            have HE2 : Hid (List.filterMap (fnd D ep sq) (plsTo D z ++ zrow z (o + 1)) = l) := Lib.hid (by rw [HSn.out, HFw.out hwhy]; simp)
            clear hwhy HFy HFw HFn HSn HBe HWt
            go_wp2_with (first
              | ((with_reducible refine wpList_rc_alloc (o := ⟨some 15, .alloc _, _, _, _, _⟩) rfl rfl ?_); intro w9 x9 hB9 hs9; clear hs9)
              | ((with_reducible refine wpList_rc_store (o := ⟨none, .store _ (.tmp 15) _, _, _, _, _⟩) rfl _ _ rfl w8.heap.size r rc0 HRi.out rc0_in rfl rfl x9 ?_); go_loud (intro w10 x10 hg10 hs10; have K10 := below_stored hB9 hg10 hB9.size (Nat.le_refl _); have HS10 := Lib.hid (HS8.out.on K10); have X10 := Lib.hid x10; have k1 := x10.rc.2.1; have k2 := x10.rc.2.2.1; clear x9 hB9 x10 hg10 hs10 K10 HS8; generalize w8.heap.size = br at *))
              | fail)
            go_roundw
            case rel => exact ⟨o + 1, L, by omega, by go_num, by rw [HE2.out]; exact HTl.out, HS10.out⟩
            case measure => first | (simp [intOf]; done) | (simp [intOf]; omega)
        · obtain rfl : o = ptr D z := by omega
          go_wp2_with fail
          go_roundw
          case rel => exact ⟨z + 1, L, by omega, by go_num, HTl.out, HS.out⟩
          case measure => first | (simp [intOf]; done) | (simp [intOf]; omega)
    · obtain rfl : z = D.n := by omega
      have hw2 := HB2.out.size
      go_wp2_with fail
      go_ret
      exact ⟨_, L0, rfl, HS0.out.1, own_base0 HS0.out.2.own hw2, bthen HB2.out HS0.out.2.bl⟩
end Go.Proofs.Ythgjlofebicpiaa

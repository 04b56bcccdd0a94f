/-
  ScU ScH ScO
-/
import Derived.Test.YthgjlofebicpiaaMg39
import Derived.Test.YthgjlofebicpiaaMg37
import Derived.Test.YthgjlofebicpiaaMg09
import Derived.Sort.Grow
/-
  Steps made of their parts; slices of some of them.
-/
namespace Go.Proofs.Ythgjlofebicpiaa
open Go.RowKit Geom Zone Dev Word Rec Scan
set_option linter.unusedVariables false

theorem fill_agg (pl : Nat → Option (Nat × Nat)) (pre old post us : List Value) (i off : Nat) (more : List (Nat × Value)) (hpl : pl i = some (off, us.length)) (hoff : pre.length = off) (hl : us.length = old.length) :
    Instr.fill pl (pre ++ (old ++ post)).toArray ((i, .agg us.toArray) :: more) = Instr.fill pl (pre ++ (us ++ post)).toArray more := by
  have e : (Value.agg us.toArray).cells = us.toArray := rfl
  have hf := foldl_set_off off us (old ++ post) 0 pre (by omega) (by simp; omega)
  rw [List.drop_left' hl.symm, List.append_assoc] at hf
  conv => lhs; unfold Instr.fill
  simp only [hpl, e]
  rw [if_neg (by simp; omega)]
  congr 1
  rw [← Array.foldl_toList, Array.toList_zipIdx]
  exact hf
theorem fill_row (sz : Nat) : ∀ (L : List (List Value)) (k : Nat) (pre post : List Value), (∀ us ∈ L, us.length = sz) → pre.length = k * sz → post.length = L.length * sz →
    Instr.fill (fun i => some (i * sz, sz)) (pre ++ post).toArray ((L.zipIdx k).map fun x => (x.2, Value.agg x.1.toArray)) = some (pre ++ L.flatten).toArray
  | [], k, pre, post, _, _, hp => by
    obtain rfl : post = [] := List.eq_nil_of_length_eq_zero (by simpa using hp)
    simp [Instr.fill]
  | us :: L, k, pre, post, hL, hpre, hp => by
    have hu := hL us List.mem_cons_self
    have hsp : post = post.take sz ++ post.drop sz := (List.take_append_drop sz post).symm
    have hlen : sz ≤ post.length := by rw [hp, List.length_cons, Nat.add_mul]; omega
    rw [List.zipIdx_cons, List.map_cons, hsp, fill_agg _ pre (post.take sz) (post.drop sz) us k (k * sz) _ (by rw [hu]) hpre (by rw [hu, List.length_take]; omega), ← List.append_assoc]
    rw [fill_row sz L (k + 1) (pre ++ us) (post.drop sz) (fun x hx => hL x (List.mem_cons_of_mem _ hx)) (by rw [List.length_append, hpre, hu, Nat.add_mul]; omega) (by rw [List.length_drop, hp, List.length_cons, Nat.add_mul]; omega)]
    simp
theorem run_buildSlice_row {P : Program} (w : World) {t e : TypeId} {z : Value} {size bytes : Nat} (he : Elem P t e z size bytes) (hs : size ≤ 1000) (L : List (List Value)) (hL : ∀ us ∈ L, us.length = size) (hn : L.length ≤ 1000) (h0 : 0 < L.length) :
    (Instr.buildSlice t L.length ((L.zipIdx.map fun x => (x.2, Value.agg x.1.toArray)).toArray)).run P w = .ok (.slice (some ⟨w.heap.size, 0, none⟩) L.length L.length) (w.alloc (.cells L.flatten.toArray e)) := by
  obtain ⟨ht, i, hi, hz, hsize, hby, hzs, hsz⟩ := he
  have hm : L.length * size ≤ 1000000 := Nat.mul_le_mul hn hs
  have e1 : ¬ L.length * size > 2 ^ 24 := by omega
  have e2 : ¬ L.length * size = 0 := by
    have := Nat.mul_pos h0 hsz
    omega
  have hf := fill_row size L 0 [] (((Array.range (L.length * size)).map (fun i => z.cells[i % z.cells.size]!)).toList) hL (by simp) (by simp)
  simp only [List.nil_append, Array.toArray_toList] at hf
  have e2' : ¬ (L = [] ∨ size = 0) := by rintro (h | h); rw [h] at h0; simp at h0; omega
  simp [Instr.buildSlice, run_underlying ht, sizeOf, typeInfo, hi, hsize, e1, e2, zeroValue, hz, newRow, newObj]
  rw [hf]
  rfl
theorem elemSt : Elem Try.prog 24 53 (.agg (stcs ⟨0, rc0, false⟩).toArray) 39 88 := Elem.of Try.underlying24 (by kernel_rfl) rfl (by decide)
theorem zero_step (w : World) : (zeroValue 53).run Try.prog w = .ok (.agg (stcs ⟨0, rc0, false⟩).toArray) w :=
  (zero_of_info (P := Try.prog) (t := 53) (v := .agg (stcs ⟨0, rc0, false⟩).toArray) (n := 39) (by kernel_rfl)).1 w
theorem step_places (w : World) : (Array.mapM (fun f : Field => (do pure (f.offset, ← sizeOf f.type) : Sem (Nat × Nat))) (Try.prog.fieldsOf 53)).run Try.prog w = .ok #[(0, 1), (1, 37), (38, 1)] w := by
  have h3 : ∀ w : World, (sizeOf 5).run Try.prog w = .ok 1 w := by intro w; go_simp
  have h23 : ∀ w : World, (sizeOf 50).run Try.prog w = .ok 37 w := by intro w; go_simp
  have h4 : ∀ w : World, (sizeOf 4).run Try.prog w = .ok 1 w := by intro w; go_simp
  simp only [Program.fieldsOf, Try.underlying53]
  simp only [List.mapM_toArray, List.mapM_cons, List.mapM_nil, Sem.run_bind, Sem.run_pure, h3, h4, h23, Result.andThen, Sem.run_map]
theorem run_build_step (w : World) (z : Int) (r : Rc) (h : In r) :
    (Instr.build 53 #[(0, .int .u8 z), (1, .agg (rcs r).toArray)]).run Try.prog w = .ok (.agg (stcs ⟨z, r, false⟩).toArray) w := by
  have hp := step_places w
  simp only [Program.fieldsOf, Try.underlying53] at hp
  unfold Instr.build
  simp only [Sem.run_bind, zero_step w, Result.andThen, run_underlying Try.underlying53, hp]
  have e : Instr.fill (fun x => #[((0, 1) : Nat × Nat), (1, 37), (38, 1)][x]?) (Value.agg (stcs ⟨0, rc0, false⟩).toArray).cells [(0, .int .u8 z), (1, .agg (rcs r).toArray)] = some (stcs ⟨z, r, false⟩).toArray := by
    refine (fill_int _ [] _ _ _ _ 0 0 _ rfl rfl).trans ?_
    exact (fill_agg _ [_] (rcs rc0) [.bool false] (rcs r) 1 1 [] (by rw [rcs_length h.1]; rfl) rfl (by rw [rcs_length h.1, rcs_length rc0_in.1])).trans rfl
  rw [e]
  rfl
end Go.Proofs.Ythgjlofebicpiaa

/-
  Package scan: records.
-/
namespace Go.Proofs.Ythgjlofebicpiaa
open Go.RowKit Geom Zone Dev Word Rec Scan
set_option linter.unusedVariables false

set_option maxRecDepth 100000 in
set_option maxHeartbeats 4000000 in
theorem records_any (ep sq : Int) (be bq : Nat) {w : World} {d : Nat} {T : Nat → Prop} {D : Dv} (hO : DvOk D) (ho : Od D) (hd : D.down = false) (hT : ∀ k, w.heap.size ≤ k → T k) (hI : DevIs T w d D)
    (ce : w.cell? ⟨be, 0, none⟩ = some (.int .i64 ep)) (cs : w.cell? ⟨bq, 0, none⟩ = some (.int .i64 sq)) (hbe : be < w.heap.size) (hbq : bq < w.heap.size) :
    Calls Try.prog 25 #[dp d, gvS D.conv D.soft D.seq D.size D.opn, .func (.func 26) #[] #[.pointer (some ⟨be, 0, none⟩), .pointer (some ⟨bq, 0, none⟩)]] w fun e w' =>
      ∃ V, e = .returned (.tuple #[V, .int .i64 0]) ∧ w'.ownsRow w.heap.size 56 38 V (foundD D ep sq).length (fls (foundD D ep sq)) ∧ Below w.heap.size w w' := by
  obtain ⟨mp, hmp, hszp⟩ := big_size (P := Try.prog) (t := 62) (s := 64) (by kernel_rfl)
  obtain ⟨mr, hmr, hszr⟩ := big_size (P := Try.prog) (t := 50) (s := 37) (by kernel_rfl)
  have hmp0 : ¬ mp = 0 := by omega
  have hmr0 : ¬ mr = 0 := by omega
  have HM := Lib.hid (And.intro hmp hmr)
  have HO := Lib.hid (And.intro hO (And.intro ho hd))
  have HT := Lib.hid hT
  have HI := Lib.hid hI
  have HE := Lib.hid (And.intro ce (And.intro cs (And.intro hbe hbq)))
  have hn64 := dv_n hO
  have HDn := Lib.hid fun (W : World) (h : DevIs T W d D) => show Calls Try.prog 47 #[dp d] W (fun x w' => x = .returned (.bool false) ∧ W = w') from by
    obtain ⟨gz, cz, lb, cv, nb, hD, _⟩ := h
    rw [hd] at hD
    exact down_any hD
  clear hmp hmr ho hd hT hI ce cs hbe hbq
  go_enter Try.func25, Try.ntmps25
  go_wp2_with (first
    | ((with_reducible refine wpList_box_box _ (o := ⟨some 4, .box _ _, _, _, _, _⟩) rfl _ _ rfl (gcS D.conv D.soft D.seq D.size D.opn) rfl ?_); intro w1 x0 hB1 hs1; clear hs1)
    | fail)
  have HI1 := Lib.hid (HI.out.below hB1)
  have X0 := Lib.hid x0
  have HB1 := Lib.hid hB1
  clear x0 hB1
  refine (HDn.out _ HI1.out).mono ?_
  rintro e w1' ⟨rfl, rfl⟩
  clear HDn
  go_wp2_with fail
  refine (zones_dev (T := T) (fun k hk => HT.out k (Nat.le_trans HB1.out.size hk)) HO.out.1 HI1.out).mono ?_
  rintro e w2 ⟨gz, cz, rfl, hz, hB2⟩
  have HZ := Lib.hid hz
  have HI2 := Lib.hid (HI1.out.below hB2)
  have X2 := Lib.hid (X0.out.on hB2)
  have HB2 := Lib.hid (bthen HB1.out hB2)
  clear hz hB2 HI1 X0 HB1
  go_wp2
  go_loopw [8, 22] (fun v i wr => ∃ (z : Nat), z ≤ D.n ∧ i = .int .i64 z ∧ RcS w2 wr v ((plsTo D z).filterMap (fnd D ep sq))) (fun _ i _ => D.n - (intOf i).toNat)
  case atStart => exact ⟨0, by omega, rfl, ⟨World.ownsRow_nil _ _ _ _, Below.refl _ _⟩⟩
  case round =>
    obtain ⟨z, hzn, rfl, hst⟩ := hrel
    have HS := Lib.hid hst
    clear hst
    by_cases hlt : z < D.n
    · have hzi : (z : Int) < (D.n : Int) := by omega
      have HLz : Hid (D.L[z]? = some (D.L.getD z (0, 0))) := Lib.hid (getD_of (by have := HO.out.1.fit.1; have := HO.out.1.ns; omega))
      have HPz : Hid ((D.L.getD z (0, 0)).2 = (ptr D z : Int)) := Lib.hid (by
        have h := fit_point HO.out.1.fit HO.out.1.ok.2.2.2.1 HLz.out
        show (D.L.getD z (0, 0)).2 = ((D.L.getD z (0, 0)).2.toNat : Int)
        omega)
      have c0 : wr.cell? ⟨gz, z * 2, none⟩ = some (.int .i64 (D.L.getD z (0, 0)).1) := ((Rd.own HZ.out).below HS.out.bl).cell0 (zc_get0 HLz.out)
      have c1 : wr.cell? ⟨gz, z * 2 + 1, none⟩ = some (.int .i64 (D.L.getD z (0, 0)).2) := ((Rd.own HZ.out).below HS.out.bl).cell0 (zc_get1 HLz.out)
      rw [HPz.out] at c1
      generalize (D.L.getD z (0, 0)).1 = zst at c0
      have HPt := Lib.hid (ptr_le HO.out.1 hlt)
      go_wp2_with fail
      have HS3 := Lib.hid (HS.out.on ((Below.refl wr.heap.size wr).alloc (Nat.le_refl _) (.cells #[.int .i64 zst, .int .i64 (ptr D z : Int)] 66 (0, 0))))
      clear HS c0 c1 HLz HPz
      generalize World.alloc _ _ = w3 at *
      go_loopw [8, 29] (fun v i wr => ∃ (o : Nat), o ≤ ptr D z ∧ i = .int .i64 o ∧ RcS w2 wr v ((plsTo D z ++ zrow z o).filterMap (fnd D ep sq))) (fun _ i _ => ptr D z - (intOf i).toNat)
      case atStart => exact ⟨0, by omega, rfl, by rw [zrow_zero, List.append_nil]; exact HS3.out⟩
      case round =>
        clear HS3
        obtain ⟨o, hop, rfl, hst⟩ := hrel
        have HS := Lib.hid hst
        clear hst
        by_cases hlo : o < ptr D z
        · have hoi : (o : Int) < (ptr D z : Int) := by omega
          have hpt : (ptr D z : Int) ≤ 256 := by have := HPt.out; omega
          have HRd := Lib.hid fun (W : World) (hb : Below w2.heap.size w2 W) => (readok_any (T := T) ((z : Int), (o : Int)) ⟨w64 (by omega) (by omega), w64 (by omega) (by have := HPt.out; omega)⟩ HO.out.1 (HI2.out.below hb) HO.out.2.2 (ptr_readE HO.out.1 HO.out.2.2 hlt hlo) :
            Calls Try.prog 29 #[dp d, .agg #[.int .i64 (z : Int), .int .i64 (o : Int)]] W fun x w' => x = .returned (.tuple #[.agg (bs (pageD D ((z : Int), (o : Int)))).toArray, .int .i64 0]) ∧ Below W.heap.size W w')
          have HP64 : Hid ((pageD D ((z : Int), (o : Int))).length = 64 ∧ octets (pageD D ((z : Int), (o : Int)))) := Lib.hid ⟨page_len HO.out.1 _, page_oct HO.out.1 HO.out.2.1 _⟩
          have HSn := Lib.hid (row_snoc (D := D) (epoch := ep) (seq := sq) (z := z) (o := o))
          have HCn := Lib.hid (row_count (epoch := ep) (seq := sq) HO.out.1 hlt hop)
          have HFy := Lib.hid fun h1 h2 => fnd_yes (D := D) (ep := ep) (sq := sq) (a := ((z : Int), (o : Int))) h1 h2
          have HFw := Lib.hid fun h1 => fnd_why (D := D) (ep := ep) (sq := sq) (a := ((z : Int), (o : Int))) h1
          have HFn := Lib.hid fun h1 => fnd_not (D := D) (ep := ep) (sq := sq) (a := ((z : Int), (o : Int))) h1
          generalize (plsTo D z ++ zrow z o).filterMap (fnd D ep sq) = l at *
          have HVb := Lib.hid fun g hg => (HS.out.own.lt g hg).2
          go_wp2_with fail
          have HS4 := Lib.hid (HS.out.on ((Below.refl wr.heap.size wr).alloc (Nat.le_refl _) (.cells #[.int .i64 (z : Int), .int .i64 (o : Int)] 68 (0, 0))))
          have HA4 := Lib.hid (Box.new wr 68 [.int .i64 (z : Int), .int .i64 (o : Int)])
          clear HS
          change Hid (Box (wr.alloc (.cells #[.int .i64 (z : Int), .int .i64 (o : Int)] 68)) _ _ _) at HA4
          generalize World.alloc _ _ = w4 at *
          generalize wr.heap.size = ba at *
          refine (HRd.out w4 HS4.out.bl).mono ?_
          rintro e w5 ⟨rfl, hB5⟩
          have HS5 := Lib.hid (HS4.out.on hB5)
          have HA5 := Lib.hid (HA4.out.on hB5)
          clear hB5 HRd HS4 HA4
          generalize pageD D ((z : Int), (o : Int)) = p at *
          go_wp2_with (first
            | ((with_reducible refine wpList_pg_alloc (o := ⟨some 13, .alloc _, _, _, _, _⟩) rfl rfl ?_); intro w6 x6 hB6 hs6; clear hs6)
            | ((with_reducible refine wpList_pg_store (o := ⟨none, .store _ (.tmp 13) _, _, _, _, _⟩) rfl _ _ rfl w5.heap.size p pg0 HP64.out.1 rfl rfl rfl x6 ?_); go_loud (intro w7 x7 hg7 hs7; have K7 := below_stored hB6 hg7 hB6.size (Nat.le_refl _); have HS7 := Lib.hid (HS5.out.on K7); have HA7 := Lib.hid (HA5.out.on K7); have l7 := big_load0 Try.prog w5.heap.size 0 (bs p) mp (by rw [bs_length, HP64.out.1, HM.out.1]) _ x7.range0; clear x6 hB6 x7 hg7 hs7 K7 HS5 HA5; generalize w5.heap.size = bp at *))
            | fail)
          refine (rcread_any p _ HP64.out.1 HP64.out.2).mono ?_
          rintro e w8 ⟨rfl, hB8⟩
          have HS8 := Lib.hid (HS7.out.on hB8)
          have HA8 := Lib.hid (HA7.out.on hB8)
          have HRi := Lib.hid (read_in HP64.out.1 HP64.out.2)
          clear hB8 HS7 HA7 l7
          generalize (readS p).1 = r at *
          generalize (readS p).2 = why at *
          by_cases hwhy : why = 0
          · have hwq : (why == 0) = true := by simp [hwhy]
            have HFy2 := Lib.hid (HFy.out hwhy)
            clear hwhy HFy HFw
            go_wp2_with (first
            | ((with_reducible refine wpList_rc_alloc (o := ⟨some 15, .alloc _, _, _, _, _⟩) rfl rfl ?_); intro w9 x9 hB9 hs9; clear hs9)
            | ((with_reducible refine wpList_rc_store (o := ⟨none, .store _ (.tmp 15) _, _, _, _, _⟩) rfl _ _ rfl w8.heap.size r rc0 HRi.out rc0_in rfl rfl x9 ?_); go_loud (intro w10 x10 hg10 hs10; have K10 := below_stored hB9 hg10 hB9.size (Nat.le_refl _); have HS10 := Lib.hid (HS8.out.on K10); have HA10 := Lib.hid (HA8.out.on K10); have X10 := Lib.hid x10; have HBr := Lib.hid HA8.out.lt; have l10 := big_load0 Try.prog w8.heap.size 0 (rcs r) mr (by rw [rcs_length HRi.out.1, HM.out.2]) _ x10.range0; clear x9 hB9 x10 hg10 hs10 K10 HS8 HA8; generalize w8.heap.size = br at *))
            | fail)
            have HCE : Hid (w10.cell? ⟨be, 0, none⟩ = some (.int .i64 ep) ∧ w10.cell? ⟨bq, 0, none⟩ = some (.int .i64 sq) ∧ be < w10.heap.size ∧ bq < w10.heap.size) := Lib.hid (by
              have hb : Below w.heap.size w w10 := bthen HB2.out HS10.out.bl
              have hsz := hb.size
              have := HE.out.2.2
              exact ⟨(hb.cell HE.out.2.2.1).trans HE.out.1, (hb.cell HE.out.2.2.2).trans HE.out.2.1, by omega, by omega⟩)
            refine (wanted_any ep sq be bq r w10 HRi.out HCE.out.1 HCE.out.2.1 HCE.out.2.2.1 HCE.out.2.2.2).mono ?_
            rintro e w11 ⟨rfl, hB11⟩
            have HS11 := Lib.hid (HS10.out.on hB11)
            have HA11 := Lib.hid (HA10.out.on hB11)
            have X11 := Lib.hid (X10.out.on hB11)
            clear hB11 HS10 HA10 X10 l10 HCE
            cases hwb : wantB ep sq r with
            | false =>
              have HE2 := (Lib.hid (by rw [HSn.out, HFn.out hwb]; simp) : Hid (List.filterMap (fnd D ep sq) (plsTo D z ++ zrow z (o + 1)) = l))
              clear hwb HFn HFy2 HSn
              go_wp2_with fail
              go_roundw
              case rel => exact ⟨o + 1, by omega, by go_num, by rw [HE2.out]; exact HS11.out⟩
              case measure => first | (simp [intOf]; done) | (simp [intOf]; omega)
            | true =>
              have HE2 := (Lib.hid (by rw [HSn.out, HFy2.out hwb]; rfl) : Hid (List.filterMap (fnd D ep sq) (plsTo D z ++ zrow z (o + 1)) = l ++ [⟨Geom.num D.conv D.seq D.size (z : Int) (o : Int), r⟩]))
              clear hwb HFn HFy2 HSn
              go_wp2_with fail
              have SOf := Lib.hid fun (w' : World) (x1 : Box w' br 50 (rcs r)) (x2 : Box w' w.heap.size 23 (gcS D.conv D.soft D.seq D.size D.opn)) (x3 : Box w' ba 68 [.int .i64 (z : Int), .int .i64 (o : Int)]) =>
                (⟨x1, x2.cell 0, x2.cell 1, x2.cell 2, x2.cell 3, x2.cell 4, x3.cell 0, x3.cell 1⟩ : Box w' br 50 (rcs r) ∧ w'.cell? ⟨w.heap.size, 0, none⟩ = some (.int .i64 D.conv) ∧ w'.cell? ⟨w.heap.size, 1, none⟩ = some (.int .i64 D.soft) ∧ w'.cell? ⟨w.heap.size, 2, none⟩ = some (.int .i64 D.seq) ∧ w'.cell? ⟨w.heap.size, 3, none⟩ = some (.int .i64 D.size) ∧ w'.cell? ⟨w.heap.size, 4, none⟩ = some (.int .i64 D.opn) ∧ w'.cell? ⟨ba, 0, none⟩ = some (.int .i64 (z : Int)) ∧ w'.cell? ⟨ba, 1, none⟩ = some (.int .i64 (o : Int)))
              have SO := Lib.hid fun (w' : World) (hb : Below w11.heap.size w11 w') => SOf.out w' (X11.out.on hb) (X2.out.below (bthen HS11.out.bl hb) X2.out.lt) (HA11.out.on hb)
              obtain ⟨fo, hfo⟩ : ∃ fo : Fo, fo = ⟨Geom.num D.conv D.seq D.size (z : Int) (o : Int), r⟩ := ⟨_, rfl⟩
              have HFi : Hid (FIn fo) := Lib.hid (by rw [hfo]; exact HRi.out)
              have HFl := Lib.hid (fcs_length HFi.out)
              have hfp : Geom.num D.conv D.seq D.size (z : Int) (o : Int) = fo.pl := by rw [hfo]
              have hfr : fo.r = r := by rw [hfo]
              rw [← hfo] at HE2
              clear hfo
              have HNm := Lib.hid fun W => num_any D.conv D.soft D.seq D.size D.opn (z : Int) (o : Int) W HO.out.1.ok.some
              rw [hfp] at HNm
              subst hfr
              clear hfp
              have LA := Lib.hid fun (W : World) (h : Box W br 50 (rcs fo.r)) => big_load0 Try.prog br 0 (rcs fo.r) mr (by rw [rcs_length HRi.out.1, HM.out.2]) W h.range0
              refine wp_region_held_drew (S := (fun w' => Box w' br 50 (rcs fo.r) ∧ w'.cell? ⟨w.heap.size, 0, none⟩ = some (.int .i64 D.conv) ∧ w'.cell? ⟨w.heap.size, 1, none⟩ = some (.int .i64 D.soft) ∧ w'.cell? ⟨w.heap.size, 2, none⟩ = some (.int .i64 D.seq) ∧ w'.cell? ⟨w.heap.size, 3, none⟩ = some (.int .i64 D.size) ∧ w'.cell? ⟨w.heap.size, 4, none⟩ = some (.int .i64 D.opn) ∧ w'.cell? ⟨ba, 0, none⟩ = some (.int .i64 (z : Int)) ∧ w'.cell? ⟨ba, 1, none⟩ = some (.int .i64 (o : Int)))) (by kernel_rfl) (SO.out _ (Below.refl _ _).drew) (fun hHeld => ?_)
              refine wpAnyH_take (i := 0) (oi := ⟨some 56, .move _, _, _, _, _⟩) (v := ?v158) rfl (by kernel_rfl) (by kernel_rfl) (by kernel_rfl) (fun _ _ _ h => h) (Or.inl ⟨by rfl, ?hy158⟩) (by assumption) ?rest158
              case hy158 =>
                intro w hSw

                go_simp
                try with_reducible rfl
              try simp only [Act.put, List.setIfInBounds_toArray, List.set_cons_zero, List.set_cons_succ]
              refine wpAnyH_take (i := 1) (oi := ⟨some 57, .load _ _, _, _, _, _⟩) (v := ?v159) rfl (by kernel_rfl) (by kernel_rfl) (by kernel_rfl) (fun _ _ _ h => h) (Or.inl ⟨by rfl, ?hy159⟩) (by assumption) ?rest159
              case hy159 =>
                intro w hSw
                obtain ⟨_, hS0, hS1, hS2, hS3, hS4, hS5, hS6⟩ := hSw
                go_simp
                try with_reducible rfl
              try simp only [Act.put, List.setIfInBounds_toArray, List.set_cons_zero, List.set_cons_succ]
              refine wpAnyH_take (i := 2) (oi := ⟨some 58, .load _ _, _, _, _, _⟩) (v := ?v160) rfl (by kernel_rfl) (by kernel_rfl) (by kernel_rfl) (fun _ _ _ h => h) (Or.inl ⟨by rfl, ?hy160⟩) (by assumption) ?rest160
              case hy160 =>
                intro w hSw
                obtain ⟨_, hS0, hS1, hS2, hS3, hS4, hS5, hS6⟩ := hSw
                go_simp
                try with_reducible rfl
              try simp only [Act.put, List.setIfInBounds_toArray, List.set_cons_zero, List.set_cons_succ]
              refine wpAnyH_take (i := 4) (oi := ⟨some 60, .load _ _, _, _, _, _⟩) (v := ?v161) rfl (by kernel_rfl) (by kernel_rfl) (by kernel_rfl) (fun _ _ _ h => h) (Or.inl ⟨by rfl, ?hy161⟩) (by assumption) ?rest161
              case hy161 =>
                intro w hSw
                have ca := LA.out _ hSw.1
                go_simp
                try with_reducible rfl
              try simp only [Act.put, List.setIfInBounds_toArray, List.set_cons_zero, List.set_cons_succ]
              refine wpAnyH_ready (rs := [3]) (by kernel_rfl) (by simp) ?_
              refine AllReadyH.cons (o := ⟨some 59, .call _, _, _, _, _⟩) rfl (fun K hK => ?_) AllReadyH.nil
              go_simp
              refine (HNm.out _).mono ?_
              rintro e w12 ⟨rfl, b12⟩
              have B12 : Below w11.heap.size w11 w12 := bthen (Below.refl _ _).drew b12
              have HS12 := Lib.hid (HS11.out.on B12)
              clear b12
              go_wp2_with fail
              clear hHeld
              refine hK.out _ _ (SO.out _ B12) (fun hHeld => ?_)
              clear hK K
              try simp only [Act.put, List.setIfInBounds_toArray, List.set_cons_zero, List.set_cons_succ]
              refine wpAnyH_ready (rs := [5]) (by kernel_rfl) (by simp) ?_
              refine AllReadyH.cons (o := ⟨some 61, .build _ _, _, _, _, _⟩) rfl (fun K hK => ?_) AllReadyH.nil
              refine step_fo_build w12 (by rfl) _ _ (by rfl) fo HFi.out (by rfl) (by rfl) ?_
              clear hHeld
              refine hK.out _ _ (SO.out _ B12) (fun hHeld => ?_)
              clear hK K
              try simp only [Act.put, List.setIfInBounds_toArray, List.set_cons_zero, List.set_cons_succ]
              refine wpAnyH_ready (rs := [6]) (by kernel_rfl) (by simp) ?_
              refine AllReadyH.cons (o := ⟨some 62, .buildSlice _ _ _, _, _, _, _⟩) rfl (fun K hK => ?_) AllReadyH.nil
              refine step_slice_one w12 (by rfl) _ _ (by rfl) 56 _ 38 80 elemF (by decide) (fcs fo) HFl.out (by rfl) ?_
              have B13 := below_alloc1 (o := .cells (fcs fo).toArray 56) B12
              have X13 := rd_new w12 (fcs fo) 56 (0, 0)
              clear hHeld
              refine hK.out _ _ (SO.out _ B13) (fun hHeld => ?_)
              clear hK K
              try simp only [Act.put, List.setIfInBounds_toArray, List.set_cons_zero, List.set_cons_succ]
              refine wpAnyH_ready (rs := [7]) (by kernel_rfl) (by simp) ?_
              refine AllReadyH.cons (o := ⟨some 63, .call _, _, _, _, _⟩) rfl (fun K hK => ?_) AllReadyH.nil
              refine step_append_rd (w12.alloc (.cells (fcs fo).toArray 56)) (by rfl) _ _ _ (by rfl) w2.heap.size 56 _ 38 80 elemF u8 l.length (fls l) (by rfl) (HS12.out.own.alloc _) _ (some ⟨w12.heap.size, 0, none⟩) 1 1 (fcs fo) (by rfl) (by rw [HFl.out]) X13 (fcs_one fo) (by have := HCn.out; unfold maxLen; omega) (by have := HCn.out; omega) (by have := HS12.out.bl.size; simp; omega) ?_
              intro v14 w14 hown14 hg14
              have hgg : w12.grownBy w14 u8.ownBlock := (World.grownBy_alloc w12 _ _).trans hg14
              have HS14 := Lib.hid (HS12.out.add hown14 hgg)
              have HB14 : Below w2.heap.size w2 w14 := HS14.out.bl
              have hne1 : some br ≠ u8.ownBlock := fun e => by have h1 := HVb.out br e.symm; have h2 := HBr.out; omega
              have hne2 : some ba ≠ u8.ownBlock := fun e => by have h1 := HVb.out ba e.symm; omega
              have x1 := X11.out.on B12
              have x3 := HA11.out.on B12
              have HS0 := SOf.out w14 (x1.same (hgg.block br x1.lt hne1)) (X2.out.below HB14 X2.out.lt) (x3.same (hgg.block ba x3.lt hne2))
              clear x1 x3 hne1 hne2
              clear hown14 hg14 hgg
              clear hHeld
              refine hK.out _ _ (HS0) (fun hHeld => ?_)
              clear hK K
              try simp only [Act.put, List.setIfInBounds_toArray, List.set_cons_zero, List.set_cons_succ]
              refine wpAnyH_take (i := 8) (oi := ⟨some 8, .assign _, _, _, _, _⟩) (v := ?v162) rfl (by kernel_rfl) (by kernel_rfl) (by kernel_rfl) (fun _ _ _ h => h) (Or.inl ⟨by rfl, ?hy162⟩) (by assumption) ?rest162
              case hy162 =>
                intro w hSw

                go_simp
                try with_reducible rfl
              try simp only [Act.put, List.setIfInBounds_toArray, List.set_cons_zero, List.set_cons_succ]
              refine wpAnyH_done (by kernel_rfl) ?_ _
              clear hHeld SO SOf LA HNm HS11 HA11 X11 HS12
              go_wp2_with fail
              go_roundw
              case rel => exact ⟨o + 1, by omega, by go_num, by rw [HE2.out]; exact HS14.out⟩
              case measure => first | (simp [intOf]; done) | (simp [intOf]; omega)
          · have hwq : (why == 0) = false := by simp [hwhy]
            have HE2 := (Lib.hid (by rw [HSn.out, HFw.out hwhy]; simp) : Hid (List.filterMap (fnd D ep sq) (plsTo D z ++ zrow z (o + 1)) = l))
            clear hwhy HFy HFw HFn HSn
            go_wp2_with (first
            | ((with_reducible refine wpList_rc_alloc (o := ⟨some 15, .alloc _, _, _, _, _⟩) rfl rfl ?_); intro w9 x9 hB9 hs9; clear hs9)
            | ((with_reducible refine wpList_rc_store (o := ⟨none, .store _ (.tmp 15) _, _, _, _, _⟩) rfl _ _ rfl w8.heap.size r rc0 HRi.out rc0_in rfl rfl x9 ?_); go_loud (intro w10 x10 hg10 hs10; have K10 := below_stored hB9 hg10 hB9.size (Nat.le_refl _); have HS10 := Lib.hid (HS8.out.on K10); have HA10 := Lib.hid (HA8.out.on K10); have X10 := Lib.hid x10; have HBr := Lib.hid HA8.out.lt; clear x9 hB9 x10 hg10 hs10 K10 HS8 HA8; generalize w8.heap.size = br at *))
            | fail)
            go_roundw
            case rel => exact ⟨o + 1, by omega, by go_num, by rw [HE2.out]; exact HS10.out⟩
            case measure => first | (simp [intOf]; done) | (simp [intOf]; omega)
        · obtain rfl : o = ptr D z := by omega
          go_wp2_with fail
          go_roundw
          case rel => exact ⟨z + 1, by omega, by go_num, HS.out⟩
          case measure => first | (simp [intOf]; done) | (simp [intOf]; omega)
    · obtain rfl : z = D.n := by omega
      have HV := Lib.hid HS.out
      have hw2 := HB2.out.size
      go_wp2_with fail
      go_ret2
      exact ⟨_, rfl, own_base0 HV.out.own hw2, bthen HB2.out HV.out.bl⟩
end Go.Proofs.Ythgjlofebicpiaa

/-
  The order in which found records are told: comparing two numbers, one behind the other; two found records.
-/
namespace Go.Proofs.Ythgjlofebicpiaa
open Go.RowKit Word Rec Scan
set_option linter.unusedVariables false

theorem isnan_any (a : Int) (w : World) : Calls Try.prog 84 #[.int .i64 a] w fun e w' => e = .returned (.bool false) ∧ w' = w := by
  have hq : (a != a) = false := by simp
  go_enter Try.func84, Try.ntmps84
  go_wp2
  go_ret
  exact ⟨by simp, rfl⟩
theorem compare_any (a b : Int) (w : World) : Calls Try.prog 53 #[.int .i64 a, .int .i64 b] w fun e w' => e = .returned (.int .i64 (cmpI a b)) ∧ w' = w := by
  have HN := Lib.hid fun (x : Int) (w' : World) => isnan_any x w'
  by_cases h1 : a < b
  · have HC := Lib.hid (show cmpI a b = -1 from if_pos h1)
    go_enter Try.func53, Try.ntmps53
    go_wp2_with (first
      | (go_at_call 84; refine (HN.out _ _).mono ?_; rintro e w' ⟨rfl, rfl⟩)
      | fail)
    go_ret
    exact ⟨ret_int HC.out, rfl⟩
  · by_cases h2 : b < a
    · have HC := Lib.hid (show cmpI a b = 1 by unfold cmpI; rw [if_neg h1, if_pos h2])
      go_enter Try.func53, Try.ntmps53
      go_wp2_with (first
        | (go_at_call 84; refine (HN.out _ _).mono ?_; rintro e w' ⟨rfl, rfl⟩)
        | fail)
      go_ret
      exact ⟨ret_int HC.out, rfl⟩
    · have HC := Lib.hid (show cmpI a b = 0 by unfold cmpI; rw [if_neg h1, if_neg h2])
      go_enter Try.func53, Try.ntmps53
      go_wp2_with (first
        | (go_at_call 84; refine (HN.out _ _).mono ?_; rintro e w' ⟨rfl, rfl⟩)
        | fail)
      go_ret
      exact ⟨ret_int HC.out, rfl⟩
/-- the first one of two that isn't nought -/
theorem cmpor_any (x y : Int) (g : Nat) (w : World) (h0 : w.cell? ⟨g, 0, none⟩ = some (.int .i64 x)) (h1 : w.cell? ⟨g, 1, none⟩ = some (.int .i64 y)) :
    Calls Try.prog 52 #[.slice (some ⟨g, 0, none⟩) 2 2] w fun e w' => e = .returned (.int .i64 (orI x y)) ∧ w' = w := by
  unfold orI
  by_cases hx : x = 0
  · have HX := Lib.hid hx
    rw [if_pos hx]
    have hxq : (x != 0) = false := by simp [hx]
    clear hx
    go_enter Try.func52, Try.ntmps52
    go_wp2
    by_cases hy : y = 0
    · have hyq : (y != 0) = false := by simp [hy]
      have HY := Lib.hid hy
      clear hy
      refine wp_loop_rounds 3 ?_
      rw [rounds_succ]
      go_wp2
      rw [rounds_succ]
      go_wp2
      rw [rounds_succ]
      go_wp2
      go_ret
      exact ⟨ret_int HY.out, rfl⟩
    · have hyq : (y != 0) = true := by simpa using hy
      clear hy
      refine wp_loop_rounds 3 ?_
      rw [rounds_succ]
      go_wp2
      rw [rounds_succ]
      go_wp2
      go_ret
      exact ⟨rfl, rfl⟩
  · rw [if_neg hx]
    have hxq : (x != 0) = true := by simpa using hx
    clear hx
    go_enter Try.func52, Try.ntmps52
    go_wp2
    refine wp_loop_rounds 3 ?_
    rw [rounds_succ]
    go_wp2
    go_ret
    exact ⟨rfl, rfl⟩
/-- a variable of many cells is made: the world written out -/
theorem wpList_box_eq {P : Program} (w : World) {ops : Array Oper} {rest : List Oper} {o : Oper} {a : Act} {Q : Exit → Act → World → Prop} (hgd : o.guard = none) (t : TypeId) (x : Operand) (ho : o.op = .box t x) (cs : List Value) (hx : a.eval x = .agg cs.toArray)
    (h : wpList P ops Q rest (a.put o.dst (.pointer (some ⟨w.heap.size, 0, none⟩))) (w.alloc (.cells cs.toArray t))) : wpList P ops Q (o :: rest) a w := by
  refine wpList_plain hgd fun K hK => ?_
  have e : (Instr.box t (.agg cs.toArray)).run P w = .ok (.pointer (some ⟨w.heap.size, 0, none⟩)) (w.alloc (.cells cs.toArray t)) := by
    simp [Instr.box, newVar, newRow, newObj, Value.cells]
    rfl
  unfold Oper.wp execOp
  simp only [ho, hx, Sem.run_bind, e, Result.andThen_ok]
  exact hK _ _ h
set_option maxRecDepth 100000 in
/-- two found records are compared: what is made is made behind all that was there -/
theorem inorder_any (x y : Fo) (w : World) :
    Calls Try.prog 28 #[.agg (fcs x).toArray, .agg (fcs y).toArray] w fun e w' => e = .returned (.int .i64 (cfS x y)) ∧ ∃ q os, w' = Sort.grow (w.drewN q) os := by
  have HN := Lib.hid fun (a b : Int) (w' : World) => compare_any a b w'
  have HO := Lib.hid fun (a b : Int) (g : Nat) (w' : World) h0 h1 => cmpor_any a b g w' h0 h1
  have HX := Lib.hid (show cfS x y = orI (cmpI x.r.seq y.r.seq) (cmpI x.pl y.pl) from rfl)
  obtain ⟨W, hW⟩ : ∃ W, W = (w.alloc (.cells (fcs x).toArray 56)).alloc (.cells (fcs y).toArray 56) := ⟨_, rfl⟩
  have x0 : Box W w.heap.size 56 (fcs x) := by
    rw [hW]; exact (Box.new w _ _).same (Below.heap_alloc _ _ _ (by simp))
  have x1 : Box W (w.heap.size + 1) 56 (fcs y) := by
    have := Box.new (w.alloc (.cells (fcs x).toArray 56)) 56 (fcs y)
    rw [show (w.alloc (.cells (fcs x).toArray 56)).heap.size = w.heap.size + 1 by simp] at this
    rw [hW]
    exact this
  obtain ⟨c0, c3⟩ := x0.fo
  obtain ⟨d0, d3⟩ := x1.fo
  have HW := Lib.hid (show ∀ o, ∃ q os, (W.alloc o).drew = Sort.grow (w.drewN q) os from fun o => ⟨1, _, by
    rw [hW, Sort.alloc_eq_grow, Sort.alloc_eq_grow, Sort.alloc_eq_grow, Sort.grow_grow, Sort.grow_grow, Sort.drew_grow]
    rfl⟩)
  have HWE := Lib.hid hW
  have hz : w.heap.size + 1 = (w.alloc (.cells (fcs x).toArray 56)).heap.size := by simp
  have CO := Lib.hid fun (u v : Int) => (cmpor_any u v W.heap.size (W.alloc (.cells #[.int .i64 u, .int .i64 v] 3)).drew ((Box.new W 3 [.int .i64 u, .int .i64 v]).cell 0) ((Box.new W 3 [.int .i64 u, .int .i64 v]).cell 1) :
    Calls Try.prog 52 #[.slice (some ⟨W.heap.size, 0, none⟩) 2 2] (W.alloc (.cells #[.int .i64 u, .int .i64 v] 3)).drew fun e w' => e = .returned (.int .i64 (orI u v)) ∧ w' = (W.alloc (.cells #[.int .i64 u, .int .i64 v] 3)).drew)
  have SO := Lib.hid fun w' (hb : Below W.heap.size W w') => (⟨(x0.on hb).fo.1, (x0.on hb).fo.2, (x1.on hb).fo.1, (x1.on hb).fo.2⟩ : w'.cell? ⟨w.heap.size, 0, none⟩ = some (.int .i64 x.pl) ∧ w'.cell? ⟨w.heap.size, 3, none⟩ = some (.int .i64 x.r.seq) ∧ w'.cell? ⟨w.heap.size + 1, 0, none⟩ = some (.int .i64 y.pl) ∧ w'.cell? ⟨w.heap.size + 1, 3, none⟩ = some (.int .i64 y.r.seq))
  clear hW x0 x1
  generalize hq1 : cmpI x.r.seq y.r.seq = q1 at *
  generalize hq2 : cmpI x.pl y.pl = q2 at *
  have HQ := Lib.hid (And.intro hq1 hq2)
  have C1 := Lib.hid fun w' => (by have := HN.out x.r.seq y.r.seq w'; rwa [hq1] at this : Calls Try.prog 53 #[.int .i64 x.r.seq, .int .i64 y.r.seq] w' fun e w'' => e = .returned (.int .i64 q1) ∧ w'' = w')
  have C2 := Lib.hid fun w' => (by have := HN.out x.pl y.pl w'; rwa [hq2] at this : Calls Try.prog 53 #[.int .i64 x.pl, .int .i64 y.pl] w' fun e w'' => e = .returned (.int .i64 q2) ∧ w'' = w')
  clear HN HO hq1 hq2 HQ
  go_enter Try.func28, Try.ntmps28
  go_wp2_with (first
    | (with_reducible refine wpList_box_eq _ (o := ⟨some 2, .box _ _, _, _, _, _⟩) rfl _ _ rfl (fcs x) rfl ?_)
    | (with_reducible refine wpList_box_eq _ (o := ⟨some 3, .box _ _, _, _, _, _⟩) rfl _ _ rfl (fcs y) rfl ?_; rw [← HWE.out, ← hz]; clear hz HWE)
    | fail)
  clear c0 c3 d0 d3
  go_region_held3 (fun w' => w'.cell? ⟨w.heap.size, 0, none⟩ = some (.int .i64 x.pl) ∧ w'.cell? ⟨w.heap.size, 3, none⟩ = some (.int .i64 x.r.seq) ∧ w'.cell? ⟨w.heap.size + 1, 0, none⟩ = some (.int .i64 y.pl) ∧ w'.cell? ⟨w.heap.size + 1, 3, none⟩ = some (.int .i64 y.r.seq))
      (first | exact SO.out _ (Below.refl _ _).drew | exact SO.out _ ((Below.refl _ _).alloc (Nat.le_refl _) _).drew)
      ((first
        | ((with_reducible refine (C1.out _).mono ?_); rintro e w2 ⟨rfl, rfl⟩)
        | ((with_reducible refine (C2.out _).mono ?_); rintro e w2 ⟨rfl, rfl⟩)
        | ((with_reducible refine (CO.out _ _).mono ?_); rintro e w2 ⟨rfl, rfl⟩)
        | fail))
  generalize orI q1 q2 = q3 at *
  go_wp2
  go_ret
  exact ⟨ret_int HX.out, HW.out _⟩
end Go.Proofs.Ythgjlofebicpiaa

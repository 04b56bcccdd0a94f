/-
  ScZ
-/
import Derived.Test.YthgjlofebicpiaaMg43
import Derived.Test.YthgjlofebicpiaaMg42
/-
  The law Prefix of layer 14.
-/
namespace Go.Proofs.Ythgjlofebicpiaa
open Go.RowKit Geom Zone Dev Word Rec Scan
set_option linter.unusedVariables false

theorem own_far {w : World} {base : Nat} {e : TypeId} {size n c : Nat} {A : Option Addr} {xs : List Value} (h : w.ownsRow base e size (.slice A n c) n xs) :
    ∃ Y : List Nat, (∀ b ∈ Y, base ≤ b ∧ b < w.heap.size) ∧ n ≤ c ∧ (A = none ∨ ∃ g, A = some ⟨g, 0, none⟩) ∧ ∀ w' : World, w.heap.size ≤ w'.heap.size → (∀ b ∈ Y, w'.heap[b]? = w.heap[b]?) → Rd w' w'.heap.size A xs := by
  have hr := Rd.own h
  rcases h.2 with ⟨e1, rfl⟩ | ⟨g, cap, cur, e1, hg, hb, hnc, _⟩
  · injection e1 with e1 _ e3
    refine ⟨[], fun b hb => (List.not_mem_nil hb).elim, by omega, .inl e1, fun w' _ _ hn => ?_⟩
    have := h.1
    rw [Nat.zero_mul] at this
    exact absurd (List.eq_nil_of_length_eq_zero this) hn
  · injection e1 with e1 _ e3
    refine ⟨[g], fun b hb' => ?_, by omega, .inr ⟨g, e1⟩, fun w' hs hw hn => ?_⟩
    · rw [List.mem_singleton.1 hb']
      exact ⟨hg, lt_of_block hb⟩
    · obtain ⟨ad, hA, hlt, hc⟩ := hr hn
      refine ⟨ad, hA, Nat.lt_of_lt_of_le hlt hs, fun j u hu => ?_⟩
      rw [← hc j u hu]
      refine World.cell?_of_block ?_
      rw [addr_add_block]
      have : ad = ⟨g, 0, none⟩ := by rw [e1] at hA; injection hA with hA; exact hA.symm
      rw [this]
      exact hw g (List.mem_singleton.2 rfl)
theorem Rd.left {w : World} {B : Nat} {A : Option Addr} {xs ys : List Value} (h : Rd w B A (xs ++ ys)) : Rd w B A xs := fun hn => by
  obtain ⟨ad, hA, hlt, hc⟩ := h fun e => hn (List.append_eq_nil_iff.1 e).1
  refine ⟨ad, hA, hlt, fun j u hu => hc j u ?_⟩
  rw [List.getElem?_append_left (List.getElem?_eq_some_iff.1 hu).1]
  exact hu
theorem rd_take {w : World} {B k : Nat} {A : Option Addr} {l : List Fo} (h : Rd w B A (fls l)) : Rd w B A (fls (l.take k)) := by
  have e : fls l = fls (l.take k) ++ fls (l.drop k) := by
    unfold fls
    rw [← List.flatMap_append, List.take_append_drop]
  rw [e] at h
  exact h.left
theorem meas_crash {conv soft seq size opn : Int} {n : Nat} {D : Dv} (keep : List Int) (soft0 tear : Int) (h : Meas conv soft seq size opn n D) : Meas conv soft seq size opn n (crashD D keep soft0 tear) := h
theorem up_crash {k : Nat} {D : Dv} (keep : List Int) (soft0 tear : Int) (h : DUp k D) (hk : k ≤ 500) : DUp (k + 1) (crashD D keep soft0 tear) :=
  ⟨crash_ok keep soft0 tear h.ok hk, od_crash keep soft0 tear h.ok.ok h.od, (crashD_cache D keep soft0 tear).2, rfl⟩
theorem stls_snoc (s : Int) (zs : List Int) (k : Nat) (h : k < zs.length) : stls (stsP s 0 ((zs.map (· % 3)).take (k + 1))) = stls (stsP s 0 ((zs.map (· % 3)).take k)) ++ stcs (stP s k (zs.getD k 0 % 3)) := by
  have hk : k < (zs.map (· % 3)).length := by simpa using h
  rw [List.take_succ_eq_append_getElem hk, stsP_snoc, List.length_take, Nat.min_eq_left (by omega), Nat.zero_add]
  rw [List.getElem_map, List.getD_eq_getElem?_getD, List.getElem?_eq_getElem h]
  simp [stls]
/-- what follows of records that were written in order, of which a part is left -/
theorem prefix_core {s : Int} {k : Nat} {D D' : Dv} {L M : List Fo} (hP : PrI s k D) (hsub : ∀ x ∈ foundD D' 7 s, x ∈ foundD D 7 s) (hL : Tells (foundD D 7 s) L) (hM : Tells (foundD D' 7 s) M) :
    chainS M s = L.take (chainS M s).length ∧ (chainS M s).length ≤ L.length ∧ (∀ (i : Nat) (f : Fo), M[i]? = some f → ¬ f.r.seq = s + (chainS M s).length + 1) ∧ (M.length < L.length ∨ M = L) := by
  have hs : ∀ D : Dv, ∀ x ∈ foundD D 7 s, s < x.r.seq := fun D x hx => by
    obtain ⟨z, o, _, _, h⟩ := found_mem.1 hx
    obtain ⟨h1, rfl⟩ := fnd_some.1 h
    exact h1.2.2
  have uL := hL.up (pri_inj hP 7 s)
  have uM := hM.up fun x hx y hy => pri_inj hP 7 s x (hsub x hx) y (hsub y hy)
  have hML : ∀ x ∈ M, x ∈ L := fun x hx => hL.1.mem_iff.2 (hsub x (hM.1.mem_iff.1 hx))
  have hsL : ∀ x ∈ L, s < x.r.seq := fun x hx => hs D x (hL.1.mem_iff.1 hx)
  have h1 := up_sub uM uL hML hsL
  have h2 := up_chain uM fun x hx => hsL x (hML x hx)
  refine ⟨h1, ?_, fun i f hi => h2.2 f (List.mem_of_getElem? hi), ?_⟩
  · have := congrArg List.length h1
    rw [List.length_take] at this
    omega
  · by_cases h : M.length < L.length
    · exact .inl h
    · exact .inr (up_all uM uL hML (by omega))
set_option maxRecDepth 100000 in
set_option maxHeartbeats 8000000 in
theorem sclaw_prefix (conv soft seq size opn : Int) (A : Option Addr) (len cap : Nat) (zs : List Int) (s : Int) (keepA : Option Addr) (kn kc : Nat) (keep : List Int) (soft0 tear : Int) (w : World) (h64 : W64 conv ∧ W64 soft ∧ W64 seq ∧ W64 size ∧ W64 opn) (hlm : len ≤ maxLen) (hl : zs.length = len) (hzs : ∀ z ∈ zs, 0 ≤ z ∧ z < 256) (hr : Rd w w.heap.size A (bs zs)) (hs : 0 ≤ s ∧ s < 65536)
    (kr : Rd w w.heap.size keepA (ints keep)) (kl : keep.length = kn) (kcap : kn ≤ kc) (kmc : kc ≤ maxLen) (k64 : ∀ y ∈ keep, W64 y) :
    Calls Try.prog 5 #[gvS conv soft seq size opn, .slice A len cap, .int .u16 s, .agg #[.slice keepA kn kc, .int .u64 soft0, .int .i64 tear]] w fun e w' => e = .returned (.bool true) ∧ Below w.heap.size w w' := by
  have QW := Lib.hid fun w' => awake_any w'
  have QL := Lib.hid fun w' => sclittle_any conv soft seq size opn w' h64
  have HN := Lib.hid (And.intro hl (And.intro hzs hr))
  have HK := Lib.hid (And.intro kr (And.intro kl (And.intro kcap (And.intro kmc k64))))
  have hlm' := hlm
  unfold maxLen at hlm'
  clear hl hzs hr h64 kr kl kcap kmc k64
  go_enter Try.func5, Try.ntmps5
  go_wp2_with (first
    | ((with_reducible refine wpList_box_box _ (o := ⟨some 4, .box _ _, _, _, _, _⟩) rfl _ _ rfl (gcS conv soft seq size opn) rfl ?_); go_loud (intro w1 x0 hB0 hs0))
    | ((with_reducible refine wpList_box_box _ (o := ⟨some 7, .box _ _, _, _, _, _⟩) rfl _ _ rfl [.slice keepA kn kc, .int .u64 soft0, .int .i64 tear] rfl ?_); go_loud (intro w2 x1 hB1 hs1; have HB := Lib.hid (show (Box w2 w.heap.size 23 (gcS conv soft seq size opn) ∧ Box w2 w1.heap.size 46 [.slice keepA kn kc, .int .u64 soft0, .int .i64 tear] ∧ w.heap.size < w1.heap.size) ∧ Below w.heap.size w w2 from ⟨⟨x0.on hB1, x1, by omega⟩, bthen hB0 hB1⟩); clear x0 hB0 hs0 x1 hB1 hs1; generalize w1.heap.size = bx at *))
    | fail)
  refine (QW.out _).mono ?_
  rintro e wa ⟨rfl, hba⟩
  replace HB := Lib.hid (show (Box wa w.heap.size 23 (gcS conv soft seq size opn) ∧ Box wa bx 46 [.slice keepA kn kc, .int .u64 soft0, .int .i64 tear] ∧ w.heap.size < bx) ∧ Below w.heap.size w wa from ⟨⟨HB.out.1.1.on hba, HB.out.1.2.1.on hba, HB.out.1.2.2⟩, bthen HB.out.2 hba⟩)
  clear hba
  have c0 : wa.cell? ⟨w.heap.size, 0, none⟩ = some (.int .i64 conv) := HB.out.1.1.cell 0
  have c1 : wa.cell? ⟨w.heap.size, 1, none⟩ = some (.int .i64 soft) := HB.out.1.1.cell 1
  have c2 : wa.cell? ⟨w.heap.size, 2, none⟩ = some (.int .i64 seq) := HB.out.1.1.cell 2
  have c3 : wa.cell? ⟨w.heap.size, 3, none⟩ = some (.int .i64 size) := HB.out.1.1.cell 3
  have c4 : wa.cell? ⟨w.heap.size, 4, none⟩ = some (.int .i64 opn) := HB.out.1.1.cell 4
  go_wp2_with fail
  refine (QL.out _).mono ?_
  rintro e wb ⟨rfl, hbb⟩
  replace HB := Lib.hid (show (Box wb w.heap.size 23 (gcS conv soft seq size opn) ∧ Box wb bx 46 [.slice keepA kn kc, .int .u64 soft0, .int .i64 tear] ∧ w.heap.size < bx) ∧ Below w.heap.size w wb from ⟨⟨HB.out.1.1.on hbb, HB.out.1.2.1.on hbb, HB.out.1.2.2⟩, bthen HB.out.2 hbb⟩)
  clear hbb c0 c1 c2 c3 c4
  cases hli : littleS conv soft seq size opn with
  | false =>
    go_wp2_with fail
    refine (QW.out _).mono ?_
    rintro e w9 ⟨rfl, hb9⟩
    have H9 := Lib.hid (bthen HB.out.2 hb9)
    clear hb9
    go_wp2
    go_ret
    exact ⟨rfl, H9.out⟩
  | true =>
    have HLi := Lib.hid (littleS_yes hli)
    clear hli QL
    by_cases q1 : (len : Int) ≤ 60
    · have HNn : Hid ((((conv + seq).toNat : Nat) : Int) = conv + seq) := Lib.hid (by have h1 := HLi.out.1.1; have h2 := HLi.out.1.2.1; omega)
      have hl2 : len ≤ 60 := by omega
      go_wp2_with fail
      go_loopw [9, 10] (fun v i wr => ∃ k : Nat, k ≤ len ∧ i = .int .i64 k ∧ wr.ownsRow wb.heap.size 53 39 v k (stls (stsP s 0 ((zs.map (· % 3)).take k))) ∧ Below wb.heap.size wb wr) (fun _ i _ => len - (intOf i).toNat)
      case atStart => exact ⟨0, by omega, rfl, World.ownsRow_nil _ _ _ _, Below.refl _ _⟩
      case round =>
        obtain ⟨k, hk, rfl, hown, hbl⟩ := hrel
        have HOw := Lib.hid (And.intro hown hbl)
        clear hown hbl
        by_cases hlt : k < len
        · have hkz : k < zs.length := by rw [HN.out.1]; exact hlt
          have hzk : zs.getD k 0 ∈ zs := by rw [List.getD_eq_getElem?_getD, List.getElem?_eq_getElem hkz]; exact List.getElem_mem hkz
          have hz := HN.out.2.1 _ hzk
          have HTk := Lib.hid (stls_snoc s zs k hkz)
          have HSl : Hid ((stcs (stP s k (zs.getD k 0 % 3))).length = 39) := Lib.hid (stcs_length (putR_in _ _))
          obtain ⟨ad, rfl, hadb, hac⟩ := HN.out.2.2.at (bs_get hkz)
          have HAc := Lib.hid (And.intro hadb hac)
          have SOb := Lib.hid fun (W : World) (hb : Below wb.heap.size wb W) => show W.cell? (ad.add k) = some (.int .u8 (zs.getD k 0)) from ((bthen HB.out.2 hb).cell (by rw [addr_add_block]; exact HAc.out.1)).trans HAc.out.2
          have SO := Lib.hid fun (W : World) (hb : Below wr.heap.size wr W) => SOb.out W (bthen HOw.out.2 hb)
          have hki : (k : Int) < (len : Int) := by omega
          have hw0 : IntKind.i64.wrap s = s := IntWalk.i64_in _ (by omega)
          have hw1 : IntKind.i64.wrap (s + (k : Int)) = s + (k : Int) := IntWalk.i64_in _ (by omega)
          have hw2 : IntKind.i64.wrap (s + (k : Int) + 1) = s + (k : Int) + 1 := IntWalk.i64_in _ (by omega)
          have hz0 := hz.1
          have hz1 := hz.2
          clear hzk hz hadb hac hkz
          generalize zs.getD k 0 = z at HTk HSl HAc SOb SO hz0 hz1
          have hzt : z.tmod 3 = z % 3 := Int.tmod_eq_emod_of_nonneg hz0
          go_wp2_with fail
          refine wp_region_held_drew (S := (fun w' => w'.cell? (ad.add k) = some (.int .u8 z))) (by kernel_rfl) (SO.out _ (Below.refl _ _).drew) (fun hHeld => ?_)
          refine wpAnyH_take (i := 0) (oi := ⟨some 37, .move _, _, _, _, _⟩) (v := ?v158) rfl (by kernel_rfl) (by kernel_rfl) (by kernel_rfl) (fun _ _ _ h => h) (Or.inl ⟨by rfl, ?hy158⟩) (by assumption) ?rest158
          case hy158 =>
            intro w hSw

            go_simp
            try with_reducible rfl
          try simp only [Act.put, List.setIfInBounds_toArray, List.set_cons_zero, List.set_cons_succ]
          refine wpAnyH_take (i := 1) (oi := ⟨some 38, .move _, _, _, _, _⟩) (v := ?v159) rfl (by kernel_rfl) (by kernel_rfl) (by kernel_rfl) (fun _ _ _ h => h) (Or.inl ⟨by rfl, ?hy159⟩) (by assumption) ?rest159
          case hy159 =>
            intro w hSw

            go_simp
            try with_reducible rfl
          try simp only [Act.put, List.setIfInBounds_toArray, List.set_cons_zero, List.set_cons_succ]
          refine wpAnyH_take (i := 2) (oi := ⟨some 39, .move _, _, _, _, _⟩) (v := ?v160) rfl (by kernel_rfl) (by kernel_rfl) (by kernel_rfl) (fun _ _ _ h => h) (Or.inl ⟨by rfl, ?hy160⟩) (by assumption) ?rest160
          case hy160 =>
            intro w hSw

            go_simp
            try with_reducible rfl
          try simp only [Act.put, List.setIfInBounds_toArray, List.set_cons_zero, List.set_cons_succ]
          refine wpAnyH_take (i := 3) (oi := ⟨some 40, .indexAddr _ _ _, _, _, _, _⟩) (v := ?v161) rfl (by kernel_rfl) (by kernel_rfl) (by kernel_rfl) (fun _ _ _ h => h) (Or.inl ⟨by rfl, ?hy161⟩) (by assumption) ?rest161
          case hy161 =>
            intro w hSw

            go_simp
            try with_reducible rfl
          try simp only [Act.put, List.setIfInBounds_toArray, List.set_cons_zero, List.set_cons_succ]
          refine wpAnyH_take (i := 4) (oi := ⟨some 41, .load _ _, _, _, _, _⟩) (v := ?v162) rfl (by kernel_rfl) (by kernel_rfl) (by kernel_rfl) (fun _ _ _ h => h) (Or.inl ⟨by rfl, ?hy162⟩) (by assumption) ?rest162
          case hy162 =>
            intro w hSw
            have cz := hSw
            go_simp
            try with_reducible rfl
          try simp only [Act.put, List.setIfInBounds_toArray, List.set_cons_zero, List.set_cons_succ]
          refine wpAnyH_take (i := 5) (oi := ⟨some 42, .binOp _ _ _ _ _, _, _, _, _⟩) (v := ?v163) rfl (by kernel_rfl) (by kernel_rfl) (by kernel_rfl) (fun _ _ _ h => h) (Or.inl ⟨by rfl, ?hy163⟩) (by assumption) ?rest163
          case hy163 =>
            intro w hSw

            go_simp
            try with_reducible rfl
          try simp only [Act.put, List.setIfInBounds_toArray, List.set_cons_zero, List.set_cons_succ]
          refine wpAnyH_take (i := 6) (oi := ⟨some 43, .move _, _, _, _, _⟩) (v := ?v164) rfl (by kernel_rfl) (by kernel_rfl) (by kernel_rfl) (fun _ _ _ h => h) (Or.inl ⟨by rfl, ?hy164⟩) (by assumption) ?rest164
          case hy164 =>
            intro w hSw

            go_simp
            try with_reducible rfl
          try simp only [Act.put, List.setIfInBounds_toArray, List.set_cons_zero, List.set_cons_succ]
          refine wpAnyH_take (i := 7) (oi := ⟨some 44, .convert _ _ _, _, _, _, _⟩) (v := ?v165) rfl (by kernel_rfl) (by kernel_rfl) (by kernel_rfl) (fun _ _ _ h => h) (Or.inl ⟨by rfl, ?hy165⟩) (by assumption) ?rest165
          case hy165 =>
            intro w hSw

            go_simp
            try with_reducible rfl
          try simp only [Act.put, List.setIfInBounds_toArray, List.set_cons_zero, List.set_cons_succ]
          refine wpAnyH_take (i := 8) (oi := ⟨some 45, .move _, _, _, _, _⟩) (v := ?v166) rfl (by kernel_rfl) (by kernel_rfl) (by kernel_rfl) (fun _ _ _ h => h) (Or.inl ⟨by rfl, ?hy166⟩) (by assumption) ?rest166
          case hy166 =>
            intro w hSw

            go_simp
            try with_reducible rfl
          try simp only [Act.put, List.setIfInBounds_toArray, List.set_cons_zero, List.set_cons_succ]
          refine wpAnyH_take (i := 9) (oi := ⟨some 46, .binOp _ _ _ _ _, _, _, _, _⟩) (v := ?v167) rfl (by kernel_rfl) (by kernel_rfl) (by kernel_rfl) (fun _ _ _ h => h) (Or.inl ⟨by rfl, ?hy167⟩) (by assumption) ?rest167
          case hy167 =>
            intro w hSw

            go_simp
            try with_reducible rfl
          try simp only [Act.put, List.setIfInBounds_toArray, List.set_cons_zero, List.set_cons_succ]
          refine wpAnyH_take (i := 10) (oi := ⟨some 47, .binOp _ _ _ _ _, _, _, _, _⟩) (v := ?v168) rfl (by kernel_rfl) (by kernel_rfl) (by kernel_rfl) (fun _ _ _ h => h) (Or.inl ⟨by rfl, ?hy168⟩) (by assumption) ?rest168
          case hy168 =>
            intro w hSw

            go_simp
            try with_reducible rfl
          try simp only [Act.put, List.setIfInBounds_toArray, List.set_cons_zero, List.set_cons_succ]
          refine wpAnyH_ready (rs := [11]) (by kernel_rfl) (by simp) ?_
          refine AllReadyH.cons (o := ⟨some 48, .call _, _, _, _, _⟩) rfl (fun K hK => ?_) AllReadyH.nil
          go_simp
          refine (scput_any 7 (s + (k : Int) + 1) _).mono ?_
          rintro e y1 ⟨rfl, b1⟩
          have B1 : Below wr.heap.size wr y1 := bthen (Below.refl _ _).drew b1
          clear b1
          go_wp2_with fail
          clear hHeld
          refine hK.out _ _ (SO.out _ B1) (fun hHeld => ?_)
          clear hK K
          try simp only [Act.put, List.setIfInBounds_toArray, List.set_cons_zero, List.set_cons_succ]
          refine wpAnyH_take (i := 12) (oi := ⟨some 49, .build _ _, _, _, _, _⟩) (v := .agg (stcs (stP s k (z % 3))).toArray) rfl (by kernel_rfl) (by kernel_rfl) (by kernel_rfl) (fun _ _ _ h => h) (Or.inl ⟨by rfl, ?hy169⟩) (by assumption) ?rest169
          case hy169 =>
            intro w hSw

            exact exec_build2 (v0 := .int .u8 (z % 3)) (v1 := .agg (rcs (putR 7 (s + (k : Int) + 1))).toArray) (by rfl) (by rfl) (by rfl) (run_build_step w (z % 3) (putR 7 (s + (k : Int) + 1)) (putR_in _ _))
          try simp only [Act.put, List.setIfInBounds_toArray, List.set_cons_zero, List.set_cons_succ]
          refine wpAnyH_ready (rs := [13]) (by kernel_rfl) (by simp) ?_
          refine AllReadyH.cons (o := ⟨some 50, .buildSlice _ _ _, _, _, _, _⟩) rfl (fun K hK => ?_) AllReadyH.nil
          refine step_slice_one y1 (by rfl) _ _ (by rfl) 53 _ 39 88 elemSt (by decide) (stcs (stP s k (z % 3))) HSl.out (by rfl) ?_
          have B2 := below_alloc1 (o := .cells (stcs (stP s k (z % 3))).toArray 53) B1
          have X2 := rd_new y1 (stcs (stP s k (z % 3))) 53 (0, 0)
          clear hHeld
          refine hK.out _ _ (SO.out _ B2) (fun hHeld => ?_)
          clear hK K
          try simp only [Act.put, List.setIfInBounds_toArray, List.set_cons_zero, List.set_cons_succ]
          refine wpAnyH_ready (rs := [14]) (by kernel_rfl) (by simp) ?_
          refine AllReadyH.cons (o := ⟨some 51, .call _, _, _, _, _⟩) rfl (fun K hK => ?_) AllReadyH.nil
          refine step_append_rd (y1.alloc (.cells (stcs (stP s k (z % 3))).toArray 53)) (by rfl) _ _ _ (by rfl) wb.heap.size 53 _ 39 88 elemSt u9 k (stls (stsP s 0 ((zs.map (· % 3)).take k))) (by rfl) ((own_below HOw.out.1 B1).alloc _) _ (some ⟨y1.heap.size, 0, none⟩) 1 1 (stcs (stP s k (z % 3))) (by rfl) (by rw [HSl.out]) X2 (stcs_one _) (by unfold maxLen; omega) (by omega) (by have := (bthen HOw.out.2 B1).size; simp; omega) ?_
          intro v3 y3 hown3 hg3
          have hgg : y1.grownBy y3 u9.ownBlock := (World.grownBy_alloc y1 _ _).trans hg3
          have HB3 : Hid (Below wb.heap.size wb y3) := Lib.hid ((bthen HOw.out.2 B1).grown hgg (bthen HOw.out.2 B1).size fun g hg => (HOw.out.1.lt g hg).1)
          have HO3 : Hid (y3.ownsRow wb.heap.size 53 39 v3 (k + 1) (stls (stsP s 0 ((zs.map (· % 3)).take (k + 1))))) := Lib.hid (by rw [HTk.out]; exact hown3)
          have hs3 := SOb.out y3 HB3.out
          clear hown3 hg3 hgg
          clear hHeld
          refine hK.out _ _ hs3 (fun hHeld => ?_)
          clear hK K
          try simp only [Act.put, List.setIfInBounds_toArray, List.set_cons_zero, List.set_cons_succ]
          refine wpAnyH_take (i := 15) (oi := ⟨some 9, .assign _, _, _, _, _⟩) (v := ?v170) rfl (by kernel_rfl) (by kernel_rfl) (by kernel_rfl) (fun _ _ _ h => h) (Or.inl ⟨by rfl, ?hy170⟩) (by assumption) ?rest170
          case hy170 =>
            intro w hSw

            go_simp
            try with_reducible rfl
          try simp only [Act.put, List.setIfInBounds_toArray, List.set_cons_zero, List.set_cons_succ]
          refine wpAnyH_done (by kernel_rfl) ?_ _
          clear hHeld SO SOb
          go_wp2_with fail
          go_roundw
          case rel => exact ⟨k + 1, by omega, by go_num, HO3.out, HB3.out⟩
          case measure => first | (simp [intOf]; done) | (simp [intOf]; omega)
        · obtain rfl : len = k := by omega
          have hAl := own_slice HOw.out.1
          obtain ⟨Al, cl, rfl⟩ := hAl
          have HX := Lib.hid (show Box wr w.heap.size 23 (gcS conv soft seq size opn) ∧ Box wr bx 46 [.slice keepA kn kc, .int .u64 soft0, .int .i64 tear] ∧ Below w.heap.size w wr from ⟨HB.out.1.1.on HOw.out.2, HB.out.1.2.1.on HOw.out.2, bthen HB.out.2 HOw.out.2⟩)
          have HBx := Lib.hid (And.intro HB.out.1.2.2 HB.out.1.2.1.lt)
          have hr1 := Rd.own HOw.out.1
          rw [List.take_of_length_le (by rw [List.length_map, HN.out.1]; exact Nat.le_refl _)] at hr1
          have HR1 := Lib.hid hr1
          have hrl : (zs.map (· % 3)).length = len := by rw [List.length_map, HN.out.1]
          have hrz : ∀ z ∈ zs.map (· % 3), 0 ≤ z ∧ z < 256 := fun z hz => by
            obtain ⟨y, _, rfl⟩ := List.mem_map.1 hz
            have h1 := Int.emod_nonneg y (show (3 : Int) ≠ 0 by decide)
            have h2 := Int.emod_lt_of_pos y (show (0 : Int) < 3 by decide)
            omega
          have hx := stsP_in hs.1 (r := zs.map (· % 3)) (i := 0) (by rw [hrl]; have := hs.2; omega) hrz
          have hU := lay_up (stsP s 0 (zs.map (· % 3))) (up_new HLi.out.1 HNn.out).1 hx (by rw [stsP_length, hrl]; omega)
          have hM := lay_meas (stsP s 0 (zs.map (· % 3))) (up_new HLi.out.1 HNn.out).2
          have hP := pri_lay hs.1 (r := zs.map (· % 3)) (pri_new conv soft seq size opn (conv + seq).toNat s) (up_new HLi.out.1 HNn.out).1 (by rw [hrl]; have := hs.2; omega) hrz (by rw [hrl]; omega)
          have HLa := Lib.hid fun W (h : Rd W W.heap.size Al (stls (stsP s 0 (zs.map (· % 3))))) => rlayd_any conv soft seq size opn (conv + seq).toNat len cl Al (stsP s 0 (zs.map (· % 3))) W HLi.out.1 HNn.out (by rw [stsP_length, hrl]) (by omega) hx h
          rw [stsP_length, hrl] at hU
          rw [hrl] at hP
          clear hr1 hrl hrz hx HOw HB hlt hk
          generalize layD (newD conv soft seq size opn (conv + seq).toNat) (stsP s 0 (zs.map (· % 3))) = D at hU hM hP HLa
          generalize stsP s 0 (zs.map (· % 3)) = ss at HR1 HLa
          have HD := Lib.hid (And.intro hU (And.intro hM hP))
          clear hU hM hP
          have hw0 : IntKind.i64.wrap s = s := IntWalk.i64_in _ (by omega)
          have c0 : wr.cell? ⟨w.heap.size, 0, none⟩ = some (.int .i64 conv) := HX.out.1.cell 0
          have c1 : wr.cell? ⟨w.heap.size, 1, none⟩ = some (.int .i64 soft) := HX.out.1.cell 1
          have c2 : wr.cell? ⟨w.heap.size, 2, none⟩ = some (.int .i64 seq) := HX.out.1.cell 2
          have c3 : wr.cell? ⟨w.heap.size, 3, none⟩ = some (.int .i64 size) := HX.out.1.cell 3
          have c4 : wr.cell? ⟨w.heap.size, 4, none⟩ = some (.int .i64 opn) := HX.out.1.cell 4
          go_wp2_with fail
          refine (HLa.out wr HR1.out).mono ?_
          rintro e w3 ⟨d, rfl, hI, hb3⟩
          have HS3 : Hid (DvSt w w3 [bx, w.heap.size] d D ∧ Box w3 w.heap.size 23 (gcS conv soft seq size opn) ∧ Box w3 bx 46 [.slice keepA kn kc, .int .u64 soft0, .int .i64 tear]) := Lib.hid ⟨⟨hI.shrink fun k _ h => ⟨Nat.le_trans HX.out.2.2.size h, fun hx => by
              have h1 := HX.out.1.lt
              have h2 := HX.out.2.1.lt
              simp only [List.mem_cons, List.not_mem_nil, or_false] at hx
              omega⟩, bthen HX.out.2.2 hb3, fun b hb => by
              have h1 := HX.out.1.lt
              have h2 := HX.out.2.1.lt
              have h3 := hb3.size
              simp only [List.mem_cons, List.not_mem_nil, or_false] at hb
              omega⟩, HX.out.1.on hb3, HX.out.2.1.on hb3⟩
          clear hI hb3 HX HLa HR1 c0 c1 c2 c3 c4
          have c0 : w3.cell? ⟨w.heap.size, 0, none⟩ = some (.int .i64 conv) := HS3.out.2.1.cell 0
          have c1 : w3.cell? ⟨w.heap.size, 1, none⟩ = some (.int .i64 soft) := HS3.out.2.1.cell 1
          have c2 : w3.cell? ⟨w.heap.size, 2, none⟩ = some (.int .i64 seq) := HS3.out.2.1.cell 2
          have c3 : w3.cell? ⟨w.heap.size, 3, none⟩ = some (.int .i64 size) := HS3.out.2.1.cell 3
          have c4 : w3.cell? ⟨w.heap.size, 4, none⟩ = some (.int .i64 opn) := HS3.out.2.1.cell 4
          go_wp2_with fail
          refine (all_on 7 s HD.out.1 HD.out.2.1 HS3.out.1.hT HS3.out.1.1).mono ?_
          rintro e w4 ⟨V4, L, rfl, hT4, hown4, hb4⟩
          obtain ⟨A4, k4, rfl⟩ := own_slice hown4
          obtain ⟨Y, hY, hk4, hA4, hYr⟩ := own_far hown4
          have HS4 : Hid (DvSt w w4 (Y ++ [bx, w.heap.size]) d D ∧ Box w4 w.heap.size 23 (gcS conv soft seq size opn) ∧ Box w4 bx 46 [.slice keepA kn kc, .int .u64 soft0, .int .i64 tear]) := Lib.hid ⟨HS3.out.1.more2 hb4 Y hY, HS3.out.2.1.on hb4, HS3.out.2.2.on hb4⟩
          have HY := Lib.hid (show (∀ b ∈ Y, b ≠ bx) ∧ (∀ b ∈ Y, b < w4.heap.size) ∧ ∀ w' : World, w4.heap.size ≤ w'.heap.size → (∀ b ∈ Y, w'.heap[b]? = w4.heap[b]?) → Rd w' w'.heap.size A4 (fls L) from ⟨fun b hb e => by
              have h1 := (hY b hb).1
              have h2 := HS3.out.2.2.lt
              omega, fun b hb => (hY b hb).2, hYr⟩)
          have HT4 := Lib.hid (And.intro hT4 (And.intro hk4 hA4))
          clear hT4 hown4 hY hk4 hA4 hYr hb4 HS3 c0 c1 c2 c3 c4
          have cw0 : w4.cell? ⟨bx, 0, none⟩ = some (.slice keepA kn kc) := HS4.out.2.2.cell 0
          have cw1 : w4.cell? ⟨bx, 1, none⟩ = some (.int .u64 soft0) := HS4.out.2.2.cell 1
          have cw2 : w4.cell? ⟨bx, 2, none⟩ = some (.int .i64 tear) := HS4.out.2.2.cell 2
          have cf2 : w4.frozen? ⟨bx, 2, none⟩ = false := HS4.out.2.2.frozen 2
          go_wp2_with fail
          have HS5 : Hid (DvSt w (w4.setCell ⟨bx, 2, none⟩ (.int .i64 0)) (Y ++ [bx, w.heap.size]) d D ∧ Box (w4.setCell ⟨bx, 2, none⟩ (.int .i64 0)) w.heap.size 23 (gcS conv soft seq size opn) ∧ w4.heap.size ≤ (w4.setCell ⟨bx, 2, none⟩ (.int .i64 0)).heap.size ∧ ∀ b ∈ Y, (w4.setCell ⟨bx, 2, none⟩ (.int .i64 0)).heap[b]? = w4.heap[b]?) := by
            have e5 : ∀ x, x ≠ bx → (w4.setCell ⟨bx, 2, none⟩ (.int .i64 0)).heap[x]? = w4.heap[x]? := fun x hx => heap_setCell_other _ _ _ _ hx
            have hsz : (w4.setCell ⟨bx, 2, none⟩ (.int .i64 0)).heap.size = w4.heap.size := by simp [World.setCell]
            have hwb := HBx.out.1
            refine Lib.hid ⟨⟨HS4.out.1.1.keep fun k _ hk => e5 k fun e => hk.2 (by rw [e]; simp), HS4.out.1.2.1.setCell (p := ⟨bx, 2, none⟩) (Nat.le_of_lt hwb) _, fun b hb => by rw [hsz]; exact HS4.out.1.2.2 b hb⟩, HS4.out.2.1.same (e5 _ (by omega)), by omega, fun b hb => e5 b (HY.out.1 b hb)⟩
          clear HS4 cw0 cw1 cw2 cf2
          generalize w4.setCell ⟨bx, 2, none⟩ (.int .i64 0) = w5 at HS5 ⊢
          refine (crash_any (TX w.heap.size (Y ++ [bx, w.heap.size])) D keepA kn kc keep soft0 0 HS5.out.1.hT HD.out.1.ok.ok HS5.out.1.1 ((HK.out.1.below HS5.out.1.2.1).more HS5.out.1.2.1.size) HK.out.2.1 HK.out.2.2.1 HK.out.2.2.2.1 HK.out.2.2.2.2 (keep_far HK.out.1 fun k hk => hk.1)).mono ?_
          rintro e w6 ⟨rfl, hI, hF⟩
          have HS6 : Hid (DvSt w w6 (Y ++ [bx, w.heap.size]) d (crashD D keep soft0 0) ∧ Box w6 w.heap.size 23 (gcS conv soft seq size opn)) := Lib.hid ⟨HS5.out.1.next hI hF, hF.box HS5.out.2.1 (by simp)⟩
          have HR6 : Hid (Rd w6 w6.heap.size A4 (fls L)) := Lib.hid (HY.out.2.2 w6 (Nat.le_trans HS5.out.2.2.1 hF.size) fun b hb => (hF.block b (Nat.lt_of_lt_of_le (HY.out.2.1 b hb) HS5.out.2.2.1) fun ht => ht.2 (List.mem_append_left _ hb)).trans (HS5.out.2.2.2 b hb))
          have HD2 := Lib.hid (And.intro (up_crash keep soft0 0 HD.out.1 (by omega)) (And.intro (meas_crash keep soft0 0 HD.out.2.1) (crash_sub HD.out.1.ok.ok HD.out.2.2.once keep soft0 7 s)))
          clear HS5 hI hF
          generalize crashD D keep soft0 0 = D2 at HS6 HD2
          have c0 : w6.cell? ⟨w.heap.size, 0, none⟩ = some (.int .i64 conv) := HS6.out.2.cell 0
          have c1 : w6.cell? ⟨w.heap.size, 1, none⟩ = some (.int .i64 soft) := HS6.out.2.cell 1
          have c2 : w6.cell? ⟨w.heap.size, 2, none⟩ = some (.int .i64 seq) := HS6.out.2.cell 2
          have c3 : w6.cell? ⟨w.heap.size, 3, none⟩ = some (.int .i64 size) := HS6.out.2.cell 3
          have c4 : w6.cell? ⟨w.heap.size, 4, none⟩ = some (.int .i64 opn) := HS6.out.2.cell 4
          go_wp2_with fail
          refine (all_on 7 s HD2.out.1 HD2.out.2.1 HS6.out.1.hT HS6.out.1.1).mono ?_
          rintro e w7 ⟨V7, M, rfl, hT7, hown7, hb7⟩
          obtain ⟨A7, k7, rfl⟩ := own_slice hown7
          have HR7 := Lib.hid (And.intro ((HR6.out.below hb7).more hb7.size) (Rd.own hown7))
          have HB7 := Lib.hid (bthen HS6.out.1.2.1 hb7)
          have HC := Lib.hid (prefix_core HD.out.2.2 HD2.out.2.2 HT4.out.1 hT7)
          have HLn : Hid (L.length ≤ 20000 ∧ M.length ≤ 20000) := Lib.hid ⟨by rw [HT4.out.1.length]; exact pls_count HD.out.1.ok.ok (Nat.le_refl _), by rw [hT7.length]; exact pls_count HD2.out.1.ok.ok (Nat.le_refl _)⟩
          have HIn : Hid ((∀ x ∈ L, FIn x) ∧ ∀ x ∈ M, FIn x) := Lib.hid ⟨fun x hx => found_in HD.out.1.ok.ok HD.out.1.od x (HT4.out.1.1.mem_iff.1 hx), fun x hx => found_in HD2.out.1.ok.ok HD2.out.1.od x (hT7.1.mem_iff.1 hx)⟩
          have HKA := Lib.hid HT4.out.2
          have hs2 : 0 ≤ s ∧ s ≤ 9223372036854000000 := ⟨hs.1, by omega⟩
          clear HS6 HR6 HD HD2 HT4 hT7 hown7 hb7 c0 c1 c2 c3 c4
          go_wp2_with fail
          refine (chain_any A7 M.length k7 M s w7 rfl (by have := HLn.out.2; omega) HIn.out.2 hs2 HR7.out.2).mono ?_
          rintro e w8 ⟨V8, rfl, hown8, hb8⟩
          obtain ⟨A8, k8, rfl⟩ := own_slice hown8
          have HR8 := Lib.hid (And.intro ((HR7.out.1.below hb8).more hb8.size) (And.intro ((HR7.out.2.below hb8).more hb8.size) (Rd.own hown8)))
          have HB8 := Lib.hid (bthen HB7.out hb8)
          have HCi : Hid (∀ x ∈ chainS M s, FIn x) := Lib.hid (chain_in HIn.out.2)
          have HMe : Hid (M = L → (chainS M s).length = (chainS L s).length) := Lib.hid fun h => by rw [h]
          clear hown8 hb8 HR7 HB7
          generalize hCM : chainS M s = C at HC HR8 HCi HMe
          clear hCM
          have HSm := Lib.hid (fsame_any A8 A4 C.length k8 C.length k4 w8 (by have := HC.out.2.1; have := HLn.out.1; omega) (by have := HC.out.2.1; have := HLn.out.1; omega) C (L.take C.length) rfl (by rw [List.length_take]; have := HC.out.2.1; omega) HCi.out (fun x hx => HIn.out.1 x (List.mem_of_mem_take hx)) w8.heap.size HR8.out.2.2 (rd_take HR8.out.1))
          have hcl : (C.length : Int) ≤ (L.length : Int) := by have := HC.out.2.1; omega
          have hck : (C.length : Int) ≤ (k4 : Int) := by have := HC.out.2.1; have := HKA.out.1; omega
          go_wp2_with fail
          refine HSm.out.mono ?_
          rintro e w9 ⟨⟨b, rfl, hb⟩, q, rfl⟩
          obtain rfl : b = true := hb.2 HC.out.1
          have HB9 := Lib.hid (below_draws HB8.out q)
          have HR9 : Hid (Rd (w8.drewN q) (w8.drewN q).heap.size A4 (fls L) ∧ Rd (w8.drewN q) (w8.drewN q).heap.size A7 (fls M)) := Lib.hid ⟨HR8.out.1.drewN q, HR8.out.2.1.drewN q⟩
          have hMl : (M.length : Int) ≤ 20000 := by have := HLn.out.2; omega
          have HNe := Lib.hid HC.out.2.2.1
          have HOr : Hid (M.length < L.length ∨ C.length = (chainS L s).length) := Lib.hid (HC.out.2.2.2.imp id HMe.out)
          have hnc : (C.length : Int) ≤ 20000 := by have := HC.out.2.1; have := HLn.out.1; omega
          clear HSm hb HB8 HR8 HC HMe HCi hcl hck HKA
          generalize w8.drewN q = w9 at *
          generalize C.length = nc at *
          have HCL := Lib.hid (chain_any A4 L.length k4 L s w9 rfl (by have := HLn.out.1; omega) HIn.out.1 hs2 HR9.out.1)
          obtain ⟨m, hm38, hsz⟩ := big_size (P := Try.prog) (t := 56) (s := 38) (by kernel_rfl)
          have hm0 : ¬ m = 0 := by omega
          have HM := Lib.hid hm38
          clear hm38
          go_wp2_with fail
          go_loop [17] (fun i => ∃ k : Nat, k ≤ M.length ∧ i = .int .i64 k) (fun i => M.length - (intOf i).toNat)
          case atStart => exact ⟨0, by omega, rfl⟩
          case round =>
            obtain ⟨k, hk, rfl⟩ := hrel
            by_cases hlt : k < M.length
            · have hlk : M[k]? = some (M[k]'hlt) := List.getElem?_eq_getElem hlt
              have hne := HNe.out k _ hlk
              obtain ⟨ad, rfl, hj1, c3, hj2⟩ := fo_load (m := m) HR9.out.2 HIn.out.2 hlk HM.out
              clear hj1 hj2 hlk
              generalize (M[k]'hlt).r.seq = y at hne c3
              have hki : (k : Int) < (M.length : Int) := by omega
              have hs3 : IntKind.i64.wrap (s + (nc : Int)) = s + (nc : Int) := IntWalk.i64_in _ (by omega)
              have hs4 : IntKind.i64.wrap (s + (nc : Int) + 1) = s + (nc : Int) + 1 := IntWalk.i64_in _ (by omega)
              go_wp2
              go_round
              case rel => exact ⟨k + 1, by omega, by go_num⟩
              case measure => first | (simp [intOf]; done) | (simp [intOf]; omega)
            · obtain rfl : M.length = k := by omega
              go_wp2_with fail
              refine HCL.out.mono ?_
              rintro e wA ⟨VA, rfl, hownA, hbA⟩
              obtain ⟨AA, kA, rfl⟩ := own_slice hownA
              have HBA := Lib.hid (bthen HB9.out hbA)
              clear hownA hbA HCL HB9 HR9 HNe
              generalize (chainS L s).length = n2 at *
              by_cases e : nc = n2
              · subst e
                clear HOr
                go_wp2
                go_ret
                exact ⟨rfl, HBA.out⟩
              · have hML : (M.length : Int) < (L.length : Int) := by
                  rcases HOr.out with h | h
                  · omega
                  · exact absurd h e
                clear HOr
                go_wp2
                go_ret
                exact ⟨rfl, HBA.out⟩
    · go_wp2_with fail
      refine (QW.out _).mono ?_
      rintro e w9 ⟨rfl, hb9⟩
      have H9 := Lib.hid (bthen HB.out.2 hb9)
      clear hb9
      go_wp2
      go_ret
      exact ⟨rfl, H9.out⟩
end Go.Proofs.Ythgjlofebicpiaa

/-
  What each function of package mast does: numbered, Right, put, get, sealed, fault, fits.
-/
import Derived.Test.YtoehflalpidhfaaMsB
import Derived.Test.YtoehflalpidhfaaWordC
import Derived.Test.YtoehflalpidhfaaCrcC
import Derived.Test.YtoehflalpidhfaaClass
import Derived.Test.YtoehflalpidhfaaGeomD
import Derived.Test.YtoehflalpidhfaaLfD
namespace Go.Proofs.Ytoehflalpidhfaa
open Go.RowKit Word Crc Mast
set_option linter.unusedVariables false

theorem mnumbered_any (n : Int) (w : World) : Calls Try.prog 27 #[.int .i64 n] w fun e w' => e = .returned (.bool (Rec.numB n)) ∧ w = w' := by
  by_cases h : 1 ≤ n
  · by_cases h2 : n ≤ 1099511627776
    · have HN := Lib.hid (Rec.numB_yes ⟨h, h2⟩)
      go_enter Try.func27, Try.ntmps27
      go_wp2
      go_ret
      exact ⟨ret_bool HN.out, rfl⟩
    · have HN := Lib.hid (Rec.numB_no (n := n) (fun q => h2 q.2))
      go_enter Try.func27, Try.ntmps27
      go_wp2
      go_ret
      exact ⟨ret_bool HN.out, rfl⟩
  · have HN := Lib.hid (Rec.numB_no (n := n) (fun q => h q.1))
    go_enter Try.func27, Try.ntmps27
    go_wp2
    go_ret
    exact ⟨ret_bool HN.out, rfl⟩

theorem mput_any (g at_ n : Nat) (x : Int) (zs : List Int) (w : World) (h8 : n ≤ 8) (hn : 1 ≤ n) (hf : at_ + n ≤ 64) (hl : zs.length = 64) (hx : 0 ≤ x ∧ x < 9223372036854775808) (hb : Box w g 28 (bs zs)) :
    Calls Try.prog 29 #[.pointer (some ⟨g, 0, none⟩), .int .i64 at_, .int .i64 n, .int .i64 x] w fun e w' => e = .returned (.tuple #[]) ∧ Box w' g 28 (bs (put zs at_ n x)) ∧ w.grownBy w' (some g) := by
  have HP := Lib.hid (put_yes (e := 28) g g 64 64 at_ n x w (by decide) h8 hn hf zs (hb.own (by rw [bs_length, hl]) (by decide) g (Nat.le_refl _)))
  have hx0 := hx.1
  have hx1 := hx.2
  clear hb hx
  go_enter Try.func29, Try.ntmps29
  go_wp2_with fail
  refine HP.out.mono ?_
  rintro e w' ⟨rfl, hown, hg⟩
  have H := Lib.hid (And.intro (Box.of_own hown (by omega)) hg)
  clear hown hg HP
  go_wp2
  go_end0
  exact ⟨rfl, H.out.1, H.out.2⟩

theorem mget_any (at_ n : Nat) (zs : List Int) (w : World) (h8 : n ≤ 8) (hn : 1 ≤ n) (hf : at_ + n ≤ 64) (hl : zs.length = 64) (hb : octets zs) :
    Calls Try.prog 53 #[.agg (bs zs).toArray, .int .i64 at_, .int .i64 n] w fun e w' => e = .returned (.int .i64 (Rec.i64 (get zs at_ n))) ∧ Below w.heap.size w w' := by
  have hbx := Box.new w 28 (bs zs)
  have hB := (Below.refl w.heap.size w).alloc (Nat.le_refl _) (.cells (bs zs).toArray 28 (0, 0))
  have HG := Lib.hid (get_yes (some ⟨w.heap.size, 0, none⟩) 64 64 at_ n (w.alloc (.cells (bs zs).toArray 28)) (by decide) h8 hn hf zs hb hl _ (Rd.own (hbx.own (by rw [bs_length, hl]) (by decide) 0 (Nat.zero_le _))))
  have hg := get_bounds zs at_ n hb
  have HI := Lib.hid (show IntKind.i64.wrap (get zs at_ n) = Rec.i64 (get zs at_ n) from rfl)
  generalize get zs at_ n = v at *
  generalize Rec.i64 v = iv at *
  clear hbx
  go_enter Try.func53, Try.ntmps53
  go_wp2_with fail
  refine HG.out.mono ?_
  rintro e w' ⟨rfl, rfl⟩
  have H := Lib.hid hB
  clear hB HG
  go_wp2
  go_ret
  exact ⟨ret_int (by rw [← HI.out]; exact IntWalk.i64_left v), H.out⟩

/-- two variables of pages -/
def PpSt (w W : World) (p q : List Int) : Prop := Box W w.heap.size 28 (bs p) ∧ Box W (w.heap.size + 1) 28 (bs q) ∧ Below w.heap.size w W ∧ w.heap.size + 2 ≤ W.heap.size
theorem PpSt.on {w W W' : World} {p q : List Int} (h : PpSt w W p q) (hb : Below W.heap.size W W') : PpSt w W' p q := ⟨h.1.on hb, h.2.1.on hb, bthen h.2.2.1 hb, Nat.le_trans h.2.2.2 hb.size⟩
theorem PpSt.start {w w1 w2 : World} {p q : List Int} (x0 : Box w1 w.heap.size 28 (bs p)) (hB1 : Below w.heap.size w w1) (hs1 : w1.heap.size = w.heap.size + 1) (x1 : Box w2 w1.heap.size 28 (bs q)) (hB2 : Below w1.heap.size w1 w2) (hs2 : w2.heap.size = w1.heap.size + 1) : PpSt w w2 p q := by
  rw [hs1] at x1
  exact ⟨x0.below hB2 (by omega), x1, bthen hB1 hB2, by omega⟩

set_option maxRecDepth 100000 in
set_option maxHeartbeats 2000000 in
theorem msealed_any (p : List Int) (w : World) (hl : p.length = 64) (hp : octets p) :
    Calls Try.prog 30 #[.agg (bs p).toArray] w fun e w' => e = .returned (.agg (bs (sealed (p.take 60))).toArray) ∧ Below w.heap.size w w' := by
  obtain ⟨m, hm, hsz⟩ := big_size (P := Try.prog) (t := 28) (s := 64) (by kernel_rfl)
  have hm0 : ¬ m = 0 := by omega
  have HM := Lib.hid hm
  have HP := Lib.hid (And.intro hl hp)
  clear hm hl hp
  go_enter Try.func30, Try.ntmps30
  go_wp2_with (first
    | ((with_reducible refine wpList_pg_box (o := ⟨some 1, .box _ _, _, _, _, _⟩) rfl _ rfl p rfl ?_); intro w1 x0 hB1 hs1)
    | ((with_reducible refine wpList_pg_alloc (o := ⟨some 2, .alloc _, _, _, _, _⟩) rfl rfl ?_); intro w2 x1 hB2 hs2; have L := PpSt.start x0 hB1 hs1 x1 hB2 hs2; rw [hs1]; clear hs1 hs2 x0 x1 hB1 hB2)
    | fail)
  have h60 := Lib.hid (show (p.take 60).length = 60 by simp [HP.out.1])
  have hrd : Rd w2 w2.heap.size (some ⟨w.heap.size, 0, none⟩) (bs (p.take 60)) := by
    have := (Rd.own (L.1.own (n := 64) (by rw [bs_length, HP.out.1]) (by decide) 0 (Nat.zero_le _))).front (k := 60)
    rwa [← bs_take] at this
  have HSe := Lib.hid (seal_any (some ⟨w.heap.size, 0, none⟩) 60 64 (p.take 60) w2 (by decide) h60.out (fun z hz => HP.out.2 z (List.mem_of_mem_take hz)) hrd)
  have HL := Lib.hid L
  clear L hrd
  refine HSe.out.mono ?_
  rintro e w5 ⟨A', c', rfl, hown, hb5⟩
  clear HSe
  have HSL := Lib.hid (show (sealed (p.take 60)).length = 64 by rw [sealed_length, h60.out])
  have hown : w5.ownsRow w2.heap.size 5 1 (.slice A' 64 c') 64 (bs (sealed (p.take 60))) := hown
  obtain ⟨g, rfl, _, _⟩ := own_at hown (by omega)
  have HB := Lib.hid (bthen HL.out.2.2.1 hb5)
  have HX := Lib.hid (HL.out.2.1.on hb5)
  generalize hS : sealed (p.take 60) = S at *
  have HS2 := Lib.hid hS
  clear hS
  rw [show (60 : Nat) + 4 = 64 from rfl]
  have hat := fun w' => run_arrayAt (P := Try.prog) w' 28 _ 64 (some ⟨g, 0, none⟩) 64 c' Try.underlying28 (by decide)
  have hcell : w5.rangeAt g 0 (bs S) := fun j v hj => by
    rw [Nat.zero_add]
    have hj2 := (List.getElem?_eq_some_iff.1 hj).1
    rw [bs_length, HSL.out] at hj2
    exact (hown.cellAt j hj2).trans hj
  have hldS := big_load0 Try.prog g 0 (bs S) m (by rw [bs_length, HSL.out, HM.out]) _ hcell
  clear hown hcell hb5 HL
  go_wp2_with (first
    | ((with_reducible refine wpList_pg_store (o := ⟨none, .store _ _ _, _, _, _, _⟩) rfl _ _ rfl (w.heap.size + 1) S pg0 HSL.out rfl rfl rfl HX.out ?_); intro w9 hb9 hg9 _)
    | fail)
  have hldF := big_load0 Try.prog (w.heap.size + 1) 0 (bs S) m (by rw [bs_length, HSL.out, HM.out]) _ hb9.range0
  generalize hR : bs S = R at hldF ⊢
  exact bodyPost_ret (v := .agg R.toArray) (by simp [results, Try.results30, go_sem, hsz, hldF]) rfl ⟨by rw [HS2.out, hR], below_stored HB.out hg9 HB.out.size (by omega)⟩

/-- what is wrong with a sector -/
def faultS (p q : List Int) : Int := if rightB p = false then 8 else if q = p then 0 else 7
set_option maxRecDepth 100000 in
set_option maxHeartbeats 2000000 in
theorem mfault_any (p q : List Int) (w : World) (hl : p.length = 64) (hp : octets p) (hq : q.length = 64) :
    Calls Try.prog 35 #[.agg (bs p).toArray, .agg (bs q).toArray] w fun e w' => e = .returned (.int .i64 (faultS p q)) ∧ Below w.heap.size w w' := by
  obtain ⟨m, hm, hsz⟩ := big_size (P := Try.prog) (t := 28) (s := 64) (by kernel_rfl)
  have hm0 : ¬ m = 0 := by omega
  have HM := Lib.hid hm
  have HP := Lib.hid (And.intro hl (And.intro hp hq))
  clear hm hl hp hq
  go_enter Try.func35, Try.ntmps35
  go_wp2_with (first
    | ((with_reducible refine wpList_pg_box (o := ⟨some 2, .box _ _, _, _, _, _⟩) rfl _ rfl p rfl ?_); intro w1 x0 hB1 hs1)
    | ((with_reducible refine wpList_pg_box (o := ⟨some 3, .box _ _, _, _, _, _⟩) rfl _ rfl q rfl ?_); intro w2 x1 hB2 hs2; have L := PpSt.start x0 hB1 hs1 x1 hB2 hs2; rw [hs1]; clear hs1 hs2 x0 x1 hB1 hB2)
    | fail)
  have HRi := Lib.hid (cright_any (some ⟨w.heap.size, 0, none⟩) 64 64 p w2 (by decide) (by decide) (by decide) HP.out.1 HP.out.2.1 _ (Rd.own (L.1.own (by rw [bs_length, HP.out.1]) (by decide) 0 (Nat.zero_le _))))
  refine HRi.out.mono ?_
  rintro e w3 ⟨rfl, k, rfl⟩
  replace L : PpSt w (w2.drewN k) p q := ⟨L.1, L.2.1, below_draws L.2.2.1 k, L.2.2.2⟩
  generalize w2.drewN k = w3 at L ⊢
  clear HRi
  cases hri : rightB p with
  | false =>
    have HS := Lib.hid (show faultS p q = 8 by unfold faultS; rw [if_pos hri])
    have HB := Lib.hid L.2.2.1
    clear hri L
    go_wp2
    go_ret
    exact ⟨ret_int HS.out, HB.out⟩
  | true =>
    have hld := big_load0 Try.prog w.heap.size 0 (bs p) m (by rw [bs_length, HP.out.1, HM.out]) _ L.1.range0
    have hld2 := big_load0 Try.prog (w.heap.size + 1) 0 (bs q) m (by rw [bs_length, HP.out.2.2, HM.out]) _ L.2.1.range0
    have hqe := fun w' => pg_equal w' q p HP.out.2.2 HP.out.1
    have hgd := pg_guard
    have HB := Lib.hid L.2.2.1
    have HF := Lib.hid (show faultS p q = if q = p then 0 else 7 by unfold faultS; rw [if_neg (by rw [hri]; simp)])
    clear L hri
    cases he : (q == p) with
    | false =>
      have HS := Lib.hid (show faultS p q = 7 by rw [HF.out, if_neg]; intro h; rw [h] at he; simp at he)
      rw [he] at hqe
      clear he HF
      generalize bs p = P at *
      generalize bs q = Qq at *
      go_wp2
      go_ret
      exact ⟨ret_int HS.out, HB.out⟩
    | true =>
      have HS := Lib.hid (show faultS p q = 0 by rw [HF.out, if_pos (eq_of_beq he)])
      rw [he] at hqe
      clear he HF
      generalize bs p = P at *
      generalize bs q = Qq at *
      go_wp2
      go_ret
      exact ⟨ret_int HS.out, HB.out⟩

set_option maxRecDepth 100000 in
set_option maxHeartbeats 2000000 in
theorem msright_any (m : Mst) (w : World) :
    Calls Try.prog 9 #[.agg (mcs m).toArray] w fun e w' => e = .returned (.bool (okB m)) ∧ Below w.heap.size w w' := by
  have hbx := Box.new w 24 (mcs m)
  have hB := (Below.refl w.heap.size w).alloc (Nat.le_refl _) (.cells (mcs m).toArray 24 (0, 0))
  obtain ⟨c0, c1, c2, c3, c4, c5⟩ := hbx.ms
  have HB := Lib.hid hB
  have HF := Lib.hid (okB_eq m)
  generalize hW : w.alloc (.cells (mcs m).toArray 24) = W at *
  have HW := Lib.hid hW
  generalize okB m = ob at HF ⊢
  clear hB hbx
  obtain ⟨foot, gen, epoch, seq, pages, sum⟩ := m
  simp only at *
  have HE := Lib.hid fun w' => mnumbered_any gen w'
  have HS := Lib.hid fun w' => mnumbered_any epoch w'
  generalize Rec.numB gen = ng at *
  generalize Rec.numB epoch = ne at *
  unfold sqnB Leaf.idxB at HF
  have h3 : (seq < 0) ∨ (0 ≤ seq ∧ 1099511627776 < seq) ∨ (0 ≤ seq ∧ seq ≤ 1099511627776) := by omega
  have h4 : (pages < 0) ∨ (0 ≤ pages ∧ 4096 < pages) ∨ (0 ≤ pages ∧ pages ≤ 4096) := by omega
  cases ng with
  | false =>
    rcases h3 with h3 | ⟨h3, h3'⟩ | ⟨h3, h3'⟩ <;> rcases h4 with h4 | ⟨h4, h4'⟩ | ⟨h4, h4'⟩ <;>
    · go_enter Try.func9, Try.ntmps9
      go_wp2_with (go_at_call 27; (first | (with_reducible refine (HE.out _).mono ?_) | (with_reducible refine (HS.out _).mono ?_)); rintro e w' ⟨rfl, rfl⟩)
      all_goals go_ret
      all_goals exact ⟨ret_bool (by rw [HF.out]; clear HW hW c0 c1 c2 c3 c4 c5; first | (simp; done) | (simp [*]; done) | (simp [*]; omega) | simp_all), HB.out⟩
  | true =>
    cases ne with
    | false =>
      rcases h3 with h3 | ⟨h3, h3'⟩ | ⟨h3, h3'⟩ <;> rcases h4 with h4 | ⟨h4, h4'⟩ | ⟨h4, h4'⟩ <;>
      · go_enter Try.func9, Try.ntmps9
        go_wp2_with (go_at_call 27; (first | (with_reducible refine (HE.out _).mono ?_) | (with_reducible refine (HS.out _).mono ?_)); rintro e w' ⟨rfl, rfl⟩)
        all_goals go_ret
        all_goals exact ⟨ret_bool (by rw [HF.out]; clear HW hW c0 c1 c2 c3 c4 c5; first | (simp; done) | (simp [*]; done) | (simp [*]; omega) | simp_all), HB.out⟩
    | true =>
      have h3s : (seq < 0 ∨ (0 ≤ seq ∧ 1099511627776 < seq)) ∨ (0 ≤ seq ∧ seq ≤ 1099511627776) := by omega
      clear h3
      rcases h3s with (h3 | ⟨h3, h3'⟩) | ⟨h3, h3'⟩
      · rcases h4 with h4 | ⟨h4, h4'⟩ | ⟨h4, h4'⟩ <;>
        · go_enter Try.func9, Try.ntmps9
          go_wp2_with (go_at_call 27; (first | (with_reducible refine (HE.out _).mono ?_) | (with_reducible refine (HS.out _).mono ?_)); rintro e w' ⟨rfl, rfl⟩)
          all_goals go_ret
          all_goals exact ⟨ret_bool (by rw [HF.out]; clear HW hW c0 c1 c2 c3 c4 c5; first | (simp; done) | (simp [*]; done) | (simp [*]; omega) | simp_all), HB.out⟩
      · rcases h4 with h4 | ⟨h4, h4'⟩ | ⟨h4, h4'⟩ <;>
        · go_enter Try.func9, Try.ntmps9
          go_wp2_with (go_at_call 27; (first | (with_reducible refine (HE.out _).mono ?_) | (with_reducible refine (HS.out _).mono ?_)); rintro e w' ⟨rfl, rfl⟩)
          all_goals go_ret
          all_goals exact ⟨ret_bool (by rw [HF.out]; clear HW hW c0 c1 c2 c3 c4 c5; first | (simp; done) | (simp [*]; done) | (simp [*]; omega) | simp_all), HB.out⟩
      · rcases h4 with h4 | ⟨h4, h4'⟩ | ⟨h4, h4'⟩
        · go_enter Try.func9, Try.ntmps9
          go_wp2_with (go_at_call 27; (first | (with_reducible refine (HE.out _).mono ?_) | (with_reducible refine (HS.out _).mono ?_)); rintro e w' ⟨rfl, rfl⟩)
          all_goals go_ret
          all_goals exact ⟨ret_bool (by rw [HF.out]; clear HW hW c0 c1 c2 c3 c4 c5; first | (simp; done) | (simp [*]; done) | (simp [*]; omega) | simp_all), HB.out⟩
        · go_enter Try.func9, Try.ntmps9
          go_wp2_with (go_at_call 27; (first | (with_reducible refine (HE.out _).mono ?_) | (with_reducible refine (HS.out _).mono ?_)); rintro e w' ⟨rfl, rfl⟩)
          all_goals go_ret
          all_goals exact ⟨ret_bool (by rw [HF.out]; clear HW hW c0 c1 c2 c3 c4 c5; first | (simp; done) | (simp [*]; done) | (simp [*]; omega) | simp_all), HB.out⟩
        · cases foot <;>
          · go_enter Try.func9, Try.ntmps9
            go_wp2_with (go_at_call 27; (first | (with_reducible refine (HE.out _).mono ?_) | (with_reducible refine (HS.out _).mono ?_)); rintro e w' ⟨rfl, rfl⟩)
            all_goals go_ret
            all_goals exact ⟨ret_bool (by rw [HF.out]; clear HW hW c0 c1 c2 c3 c4 c5; first | (simp; done) | (simp [*]; done) | (simp [*]; omega) | simp_all), HB.out⟩

set_option maxRecDepth 100000 in
set_option maxHeartbeats 2000000 in
theorem mfits_any (g : Ge) (w : World) (hs : g.seq < 9223372036854775808) :
    Calls Try.prog 40 #[.agg (gcs g).toArray] w fun e w' => e = .returned (.bool (gokB g)) ∧ Below w.heap.size w w' := by
  obtain ⟨m, hm, hsz⟩ := big_size (P := Try.prog) (t := 38) (s := 5) (by kernel_rfl)
  have hm0 : ¬ m = 0 := by omega
  have HM := Lib.hid hm
  have HR := Lib.hid fun w' => (right_any g.conv g.soft g.seq g.size g.opn w' hs : Calls Try.prog 55 #[.agg (gcs g).toArray] w' _)
  have HF := Lib.hid (gokB_eq g)
  have HO := Lib.hid (show grB g = true → 3 ≤ g.opn from fun h => (of_decide_eq_true h : Geom.Ok _ _ _ _ _).2.2.2.2.2.1)
  change Hid (∀ w', Calls _ _ _ w' fun e w1 => e = .returned (.bool (grB g)) ∧ _) at HR
  generalize gokB g = gb at HF ⊢
  generalize grB g = rb at *
  clear hm hs
  go_enter Try.func40, Try.ntmps40
  go_wp2_with (first
    | ((with_reducible refine wpList_ge_box (o := ⟨some 1, .box _ _, _, _, _, _⟩) rfl _ rfl g rfl ?_); intro w1 x0 hB1 hs1; have hld := big_load0 Try.prog w.heap.size 0 (gcs g) m (by rw [gcs_length, HM.out]) _ x0.range0)
    | fail)
  refine (HR.out _).mono ?_
  rintro e w2 ⟨rfl, hb2⟩
  have HB := Lib.hid (bthen hB1 hb2)
  have x2 := x0.on hb2
  have c4 := x2.ge.2.2.2.2
  clear x0 x2 hB1 hb2 hs1 hld HR
  cases rb with
  | false =>
    have HQ := Lib.hid (show gb = false by rw [HF.out]; rfl)
    go_wp2
    go_ret
    exact ⟨ret_bool HQ.out, HB.out⟩
  | true =>
    have h3 := HO.out rfl
    by_cases h : g.opn ≤ 2147483647
    · have HQ := Lib.hid (show gb = true by rw [HF.out, decide_eq_true h]; rfl)
      generalize g.opn = o at *
      clear HO HF
      go_wp2
      go_ret
      exact ⟨ret_bool (by rw [HQ.out]), HB.out⟩
    · have HQ := Lib.hid (show gb = false by rw [HF.out, decide_eq_false h]; rfl)
      generalize g.opn = o at *
      clear HO HF
      go_wp2
      go_ret
      exact ⟨ret_bool (by rw [HQ.out]; symm; rw [beq_eq_false_iff_ne]; intro e; unfold wrap64 wrap32 at e; omega), HB.out⟩
end Go.Proofs.Ytoehflalpidhfaa

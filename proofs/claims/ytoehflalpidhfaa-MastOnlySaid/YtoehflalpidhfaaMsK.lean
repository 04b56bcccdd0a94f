/-
  The walks of the laws MastReads, MastOnly.
-/
import Derived.Test.YtoehflalpidhfaaMsG
import Derived.Test.YtoehflalpidhfaaRecG
import Derived.Test.YtoehflalpidhfaaCrcK
namespace Go.Proofs.Ytoehflalpidhfaa
open Go.RowKit Word Crc Mast
set_option linter.unusedVariables false

/-- a page in a variable of its own -/
def OnePg (w W : World) (p : List Int) : Prop := Box W w.heap.size 28 (bs p) ∧ Below w.heap.size w W
theorem OnePg.on {w W W' : World} {p : List Int} (h : OnePg w W p) (hb : Below W.heap.size W W') : OnePg w W' p := ⟨h.1.on hb, bthen h.2 hb⟩
theorem OnePg.setc {w W : World} {p : List Int} (h : OnePg w W p) (n : Nat) (v : Int) : OnePg w (W.setCell ⟨w.heap.size, n, none⟩ (.int .u8 v)) (p.set n v) := by
  refine ⟨?_, h.2.setCell (Nat.le_refl _) _⟩
  have := h.1.set n (.int .u8 v)
  rwa [← bs_set] at this
theorem OnePg.rd {w W : World} {p : List Int} (h : OnePg w W p) (hp : p.length = 64) : Rd W W.heap.size (some ⟨w.heap.size, 0, none⟩) (bs p) := Rd.own (h.1.own (n := 64) (by rw [bs_length, hp]) (by decide) 0 (Nat.zero_le _))

set_option maxRecDepth 100000 in
set_option maxHeartbeats 8000000 in
theorem mslaw_reads (p : List Int) (b : Bool) (w : World) (hl : p.length = 64) (hp : octets p) :
    Calls Try.prog 4 #[.agg (bs p).toArray, .bool b] w fun e w' => e = .returned (.bool true) ∧ Below w.heap.size w w' := by
  obtain ⟨m, hm, hsz⟩ := big_size (P := Try.prog) (t := 28) (s := 64) (by kernel_rfl)
  obtain ⟨mr, hmr, hszr⟩ := big_size (P := Try.prog) (t := 24) (s := 6) (by kernel_rfl)
  obtain ⟨mg, hmg, hszg⟩ := big_size (P := Try.prog) (t := 38) (s := 5) (by kernel_rfl)
  have hm0 : ¬ m = 0 := by omega
  have hmr0 : ¬ mr = 0 := by omega
  have hmg0 : ¬ mg = 0 := by omega
  have HP := Lib.hid (And.intro hl hp)
  have HM := Lib.hid (And.intro hm (And.intro hmr hmg))
  have LA := Lib.hid fun (W : World) (b : Nat) (x : Mst) (h : Box W b 24 (mcs x)) => big_load0 Try.prog b 0 (mcs x) mr (by rw [mcs_length, HM.out.2.1]) W h.range0
  have LG := Lib.hid fun (W : World) (b : Nat) (x : Ge) (h : Box W b 38 (gcs x)) => big_load0 Try.prog b 0 (gcs x) mg (by rw [gcs_length, HM.out.2.2]) W h.range0
  have LP := Lib.hid fun (W : World) (b : Nat) (x : List Int) (hx : x.length = 64) (h : Box W b 28 (bs x)) => big_load0 Try.prog b 0 (bs x) m (by rw [bs_length, hx, HM.out.1]) W h.range0
  clear hm hmr hmg hl hp
  go_enter Try.func4, Try.ntmps4
  go_wp2_with (first
    | ((with_reducible refine wpList_pg_box (o := ⟨some 2, .box _ _, _, _, _, _⟩) rfl _ rfl p rfl ?_); intro w1 x0 hB1 hs1)
    | fail)
  have HL := Lib.hid (show OnePg w w1 p from ⟨x0, hB1⟩)
  clear x0 hB1 hs1
  refine (awake8_any _).mono ?_
  rintro e w2 ⟨rfl, hb2⟩
  replace HL := Lib.hid (HL.out.on hb2)
  clear hb2
  cases b with
  | true =>
    have L := HL.out
    have h60 := Lib.hid (show (p.take 60).length = 60 by simp [HP.out.1])
    have HSL := Lib.hid (sealedP_length HP.out.1)
    have hsz2 := Nat.lt_of_lt_of_le L.1.lt (Nat.le_refl _)
    have hr : Rd w2 w2.heap.size (some ⟨w.heap.size, 0, none⟩) (bs (p.take 60)) := by (rw [bs_take]; exact (L.rd HP.out.1).front)
    go_wp2_with (first
      | (at_builtin; refine wpList_append_copy _ rfl _ _ _ rfl 5 _ 1 1 elem8 rfl (some ⟨w.heap.size, 0, none⟩) 60 64 rfl (bs (p.take 60)) (by rw [bs_length, h60.out]) hr (bs_one _) (by decide) (by omega) ?_; intro A2 c2 w3 hown hb3)
      | fail)
    replace L := L.on hb3
    have hlt3 : w.heap.size < w3.heap.size := Nat.lt_of_lt_of_le hsz2 hb3.size
    clear hb3 hr hsz2 HL
    refine (rseal_any A2 60 c2 (p.take 60) w3 (by decide) h60.out (fun z hz => HP.out.2 z (List.mem_of_mem_take hz)) (Rd.own hown)).mono ?_
    rintro e w4 ⟨A', c', rfl, hown4, hb4⟩
    replace L := L.on hb4
    have hown4 : w4.ownsRow w3.heap.size 5 1 (.slice A' 64 c') 64 (bs (sealedP p)) := hown4
    obtain ⟨g, rfl, hgb, _⟩ := own_at hown4 (by omega)
    have HO := Lib.hid hown4
    have HL := Lib.hid L
    have HG := Lib.hid (And.intro hgb hlt3)
    clear L hown hb4 hown4 hgb hlt3
    generalize w3.heap.size = B3 at *
    have h5 := Lib.hid (sealedP_mix HP.out.1)
    have HSO := Lib.hid (sealedP_octets HP.out.2)
    generalize hS : sealedP p = S at HSL HO h5 HSO
    have HS := Lib.hid hS
    clear hS
    rw [show (60 : Nat) + 4 = 64 from rfl]
    go_wp2_with fail
    go_loopw [6] (fun i wr => ∃ n : Nat, 60 ≤ n ∧ n ≤ 64 ∧ i = .int .i64 n ∧ OnePg w wr (mix S p n) ∧ wr.ownsRow B3 5 1 (.slice (some ⟨g, 0, none⟩) 64 c') 64 (bs S)) (fun i _ => 64 - (intOf i).toNat)
    case atStart => exact ⟨60, by omega, by omega, rfl, by rw [h5.out]; exact HL.out, HO.out⟩
    case round =>
      clear HL
      obtain ⟨n, hn0, hn1, rfl, hP, hown⟩ := hrel
      by_cases hlt : n < 64
      · have hml : (mix S p n).length = 64 := (mix_length (by rw [HSL.out, HP.out.1]) (by rw [HP.out.1]; exact hn1)).trans HP.out.1
        have c1 := (hown.cellAt n (by omega)).trans (bs_get (by rw [HSL.out]; exact hlt))
        have c0 := (hP.1.cell n).trans (bs_get (by rw [hml]; exact hlt))
        have f0 := hP.1.frozen n
        have HX := Lib.hid (mix_set (S := S) (p := p) (n := n) (by rw [HSL.out, HP.out.1]) (by rw [HP.out.1]; exact hlt))
        generalize S.getD n 0 = s at c1 HX
        generalize (mix S p n).getD n 0 = s0 at c0
        have HH := Lib.hid (And.intro hP hown)
        clear hml hP hown
        go_wp2
        go_roundw
        case rel =>
          refine ⟨n + 1, by omega, by omega, by go_num, ?_, ?_⟩
          · rw [← HX.out]
            exact HH.out.1.setc n s
          · refine own_same HH.out.2 fun g' hg' => heap_setCell_other _ _ _ _ ?_
            injection hg' with hg'
            have : g = g' := hg'
            have := HG.out
            show g' ≠ w.heap.size
            omega
        case measure => simp [intOf]; omega
      · obtain rfl : n = 64 := by omega
        rw [mix_all (by rw [HSL.out, HP.out.1]) HP.out.1.symm] at hP
        have HQ := Lib.hid (And.intro HSL.out HSO.out)
        have HL := Lib.hid (show Bxs w wr [(w.heap.size, 28, bs S)] from ⟨fun x hx => (List.mem_singleton.1 hx) ▸ hP.1, hP.2⟩)
        clear hP hown HO h5 HSL HSO HS
        generalize wr = W at *
        generalize hb1 : w.heap.size = b1 at HL ⊢
        clear hb1
        have R1 := Lib.hid fun w' => msread_any S w' HQ.out.1 HQ.out.2
        have R2 := Lib.hid fun w' => rread8_any S w' HQ.out.1 HQ.out.2
        rw [read_eq HQ.out.2] at R2
        have R3 := Lib.hid fun w' => geread_any S w' HQ.out.1 HQ.out.2
        have R4 := Lib.hid fun w' => rgread8_any S w' HQ.out.1 HQ.out.2
        generalize readS S = rs at R1 R2
        generalize readGS S = gs at R3 R4
        obtain ⟨r, er⟩ := rs
        obtain ⟨g, eg⟩ := gs
        simp only at R1 R2 R3 R4
        have hld := LP.out _ _ _ HQ.out.1 HL.out.head
        go_wp2_with fail
        refine (R1.out _).mono ?_
        rintro e v1 ⟨rfl, hb⟩
        replace HL := Lib.hid (HL.out.on hb)
        clear hb R1
        try clear hld
        go_wp2_with (first
          | ((with_reducible refine wpList_ms_alloc (o := ⟨some 7, .alloc _, _, _, _, _⟩) rfl rfl ?_); intro v2 xx hB hs0; clear hs0)
          | ((with_reducible refine wpList_ms_store (o := ⟨none, .store _ _ _, _, _, _, _⟩) rfl _ _ rfl v1.heap.size r m0 rfl rfl xx ?_); intro v3 yy hg hs0; clear hs0; have L := HL.out.made hB hg yy; clear xx hB yy hg HL; have HL := Lib.hid L; clear L; have hld := LP.out _ _ _ HQ.out.1 HL.out.tail.head)
          | fail)
        generalize v1.heap.size = c7 at *
        refine (R2.out _).mono ?_
        rintro e v4 ⟨rfl, hb⟩
        replace HL := Lib.hid (HL.out.on hb)
        clear hb R2
        try clear hld
        go_wp2_with (first
          | ((with_reducible refine wpList_ms_alloc (o := ⟨some 9, .alloc _, _, _, _, _⟩) rfl rfl ?_); intro v5 xx hB hs0; clear hs0)
          | ((with_reducible refine wpList_ms_store (o := ⟨none, .store _ _ _, _, _, _, _⟩) rfl _ _ rfl v4.heap.size r m0 rfl rfl xx ?_); intro v6 yy hg hs0; clear hs0; have L := HL.out.made hB hg yy; clear xx hB yy hg HL; have HL := Lib.hid L; clear L; have hld := LP.out _ _ _ HQ.out.1 HL.out.tail.tail.head)
          | fail)
        generalize v4.heap.size = c9 at *
        refine (R3.out _).mono ?_
        rintro e v7 ⟨rfl, hb⟩
        replace HL := Lib.hid (HL.out.on hb)
        clear hb R3
        try clear hld
        go_wp2_with (first
          | ((with_reducible refine wpList_ge_alloc (o := ⟨some 11, .alloc _, _, _, _, _⟩) rfl rfl ?_); intro v8 xx hB hs0; clear hs0)
          | ((with_reducible refine wpList_ge_store (o := ⟨none, .store _ _ _, _, _, _, _⟩) rfl _ _ rfl v7.heap.size g g0 rfl rfl xx ?_); intro v9 yy hg hs0; clear hs0; have L := HL.out.made hB hg yy; clear xx hB yy hg HL; have HL := Lib.hid L; clear L; have hld := LP.out _ _ _ HQ.out.1 HL.out.tail.tail.tail.head)
          | fail)
        generalize v7.heap.size = c11 at *
        refine (R4.out _).mono ?_
        rintro e v10 ⟨rfl, hb⟩
        replace HL := Lib.hid (HL.out.on hb)
        clear hb R4
        try clear hld
        have hq := fun w' => equal_mast w' r r
        rw [(msEq_iff r r).2 rfl] at hq
        have hgd := guard_mast
        have hq2 := fun w' => equal_geo w' g g
        rw [(geEq_iff g g).2 rfl] at hq2
        have hgd2 := guard_geo
        have hee : (er == er) = true := by simp
        have hee2 : (eg == eg) = true := by simp
        go_wp2_with (first
          | ((with_reducible refine wpList_ge_alloc (o := ⟨some 13, .alloc _, _, _, _, _⟩) rfl rfl ?_); intro v11 xx hB hs0; clear hs0)
          | ((with_reducible refine wpList_ge_store (o := ⟨none, .store _ _ _, _, _, _, _⟩) rfl _ _ rfl v10.heap.size g g0 rfl rfl xx ?_); intro v12 yy hg hs0; clear hs0; have L := HL.out.made hB hg yy; clear xx hB yy hg HL; have HL := Lib.hid L; clear L; have l1 := LG.out _ _ _ HL.out.head; have l2 := LG.out _ _ _ HL.out.tail.head; have l3 := LA.out _ _ _ HL.out.tail.tail.head; have l4 := LA.out _ _ _ HL.out.tail.tail.tail.head)
          | fail)
        go_ret
        exact ⟨ret_bool (by simp), HL.out.below⟩
  | false =>
    have HQ := HP
    generalize hS : p = S at *
    clear hS
    replace HL := Lib.hid (show Bxs w w2 [(w.heap.size, 28, bs S)] from ⟨fun x hx => (List.mem_singleton.1 hx) ▸ HL.out.1, HL.out.2⟩)
    generalize w2 = W at *
    generalize hb1 : w.heap.size = b1 at HL ⊢
    clear hb1
    have R1 := Lib.hid fun w' => msread_any S w' HQ.out.1 HQ.out.2
    have R2 := Lib.hid fun w' => rread8_any S w' HQ.out.1 HQ.out.2
    rw [read_eq HQ.out.2] at R2
    have R3 := Lib.hid fun w' => geread_any S w' HQ.out.1 HQ.out.2
    have R4 := Lib.hid fun w' => rgread8_any S w' HQ.out.1 HQ.out.2
    generalize readS S = rs at R1 R2
    generalize readGS S = gs at R3 R4
    obtain ⟨r, er⟩ := rs
    obtain ⟨g, eg⟩ := gs
    simp only at R1 R2 R3 R4
    have hld := LP.out _ _ _ HQ.out.1 HL.out.head
    go_wp2_with fail
    refine (R1.out _).mono ?_
    rintro e v1 ⟨rfl, hb⟩
    replace HL := Lib.hid (HL.out.on hb)
    clear hb R1
    try clear hld
    go_wp2_with (first
      | ((with_reducible refine wpList_ms_alloc (o := ⟨some 7, .alloc _, _, _, _, _⟩) rfl rfl ?_); intro v2 xx hB hs0; clear hs0)
      | ((with_reducible refine wpList_ms_store (o := ⟨none, .store _ _ _, _, _, _, _⟩) rfl _ _ rfl v1.heap.size r m0 rfl rfl xx ?_); intro v3 yy hg hs0; clear hs0; have L := HL.out.made hB hg yy; clear xx hB yy hg HL; have HL := Lib.hid L; clear L; have hld := LP.out _ _ _ HQ.out.1 HL.out.tail.head)
      | fail)
    generalize v1.heap.size = c7 at *
    refine (R2.out _).mono ?_
    rintro e v4 ⟨rfl, hb⟩
    replace HL := Lib.hid (HL.out.on hb)
    clear hb R2
    try clear hld
    go_wp2_with (first
      | ((with_reducible refine wpList_ms_alloc (o := ⟨some 9, .alloc _, _, _, _, _⟩) rfl rfl ?_); intro v5 xx hB hs0; clear hs0)
      | ((with_reducible refine wpList_ms_store (o := ⟨none, .store _ _ _, _, _, _, _⟩) rfl _ _ rfl v4.heap.size r m0 rfl rfl xx ?_); intro v6 yy hg hs0; clear hs0; have L := HL.out.made hB hg yy; clear xx hB yy hg HL; have HL := Lib.hid L; clear L; have hld := LP.out _ _ _ HQ.out.1 HL.out.tail.tail.head)
      | fail)
    generalize v4.heap.size = c9 at *
    refine (R3.out _).mono ?_
    rintro e v7 ⟨rfl, hb⟩
    replace HL := Lib.hid (HL.out.on hb)
    clear hb R3
    try clear hld
    go_wp2_with (first
      | ((with_reducible refine wpList_ge_alloc (o := ⟨some 11, .alloc _, _, _, _, _⟩) rfl rfl ?_); intro v8 xx hB hs0; clear hs0)
      | ((with_reducible refine wpList_ge_store (o := ⟨none, .store _ _ _, _, _, _, _⟩) rfl _ _ rfl v7.heap.size g g0 rfl rfl xx ?_); intro v9 yy hg hs0; clear hs0; have L := HL.out.made hB hg yy; clear xx hB yy hg HL; have HL := Lib.hid L; clear L; have hld := LP.out _ _ _ HQ.out.1 HL.out.tail.tail.tail.head)
      | fail)
    generalize v7.heap.size = c11 at *
    refine (R4.out _).mono ?_
    rintro e v10 ⟨rfl, hb⟩
    replace HL := Lib.hid (HL.out.on hb)
    clear hb R4
    try clear hld
    have hq := fun w' => equal_mast w' r r
    rw [(msEq_iff r r).2 rfl] at hq
    have hgd := guard_mast
    have hq2 := fun w' => equal_geo w' g g
    rw [(geEq_iff g g).2 rfl] at hq2
    have hgd2 := guard_geo
    have hee : (er == er) = true := by simp
    have hee2 : (eg == eg) = true := by simp
    go_wp2_with (first
      | ((with_reducible refine wpList_ge_alloc (o := ⟨some 13, .alloc _, _, _, _, _⟩) rfl rfl ?_); intro v11 xx hB hs0; clear hs0)
      | ((with_reducible refine wpList_ge_store (o := ⟨none, .store _ _ _, _, _, _, _⟩) rfl _ _ rfl v10.heap.size g g0 rfl rfl xx ?_); intro v12 yy hg hs0; clear hs0; have L := HL.out.made hB hg yy; clear xx hB yy hg HL; have HL := Lib.hid L; clear L; have l1 := LG.out _ _ _ HL.out.head; have l2 := LG.out _ _ _ HL.out.tail.head; have l3 := LA.out _ _ _ HL.out.tail.tail.head; have l4 := LA.out _ _ _ HL.out.tail.tail.tail.head)
      | fail)
    go_ret
    exact ⟨ret_bool (by simp), HL.out.below⟩

set_option maxRecDepth 100000 in
set_option maxHeartbeats 8000000 in
theorem mslaw_only (p : List Int) (b : Bool) (w : World) (hl : p.length = 64) (hp : octets p) :
    Calls Try.prog 7 #[.agg (bs p).toArray, .bool b] w fun e w' => e = .returned (.bool true) ∧ Below w.heap.size w w' := by
  obtain ⟨m, hm, hsz⟩ := big_size (P := Try.prog) (t := 28) (s := 64) (by kernel_rfl)
  obtain ⟨mr, hmr, hszr⟩ := big_size (P := Try.prog) (t := 24) (s := 6) (by kernel_rfl)
  obtain ⟨mg, hmg, hszg⟩ := big_size (P := Try.prog) (t := 38) (s := 5) (by kernel_rfl)
  have hm0 : ¬ m = 0 := by omega
  have hmr0 : ¬ mr = 0 := by omega
  have hmg0 : ¬ mg = 0 := by omega
  have HP := Lib.hid (And.intro hl hp)
  have HM := Lib.hid (And.intro hm (And.intro hmr hmg))
  have LA := Lib.hid fun (W : World) (b : Nat) (x : Mst) (h : Box W b 24 (mcs x)) => big_load0 Try.prog b 0 (mcs x) mr (by rw [mcs_length, HM.out.2.1]) W h.range0
  have LG := Lib.hid fun (W : World) (b : Nat) (x : Ge) (h : Box W b 38 (gcs x)) => big_load0 Try.prog b 0 (gcs x) mg (by rw [gcs_length, HM.out.2.2]) W h.range0
  have LP := Lib.hid fun (W : World) (b : Nat) (x : List Int) (hx : x.length = 64) (h : Box W b 28 (bs x)) => big_load0 Try.prog b 0 (bs x) m (by rw [bs_length, hx, HM.out.1]) W h.range0
  clear hm hmr hmg hl hp
  go_enter Try.func7, Try.ntmps7
  go_wp2_with (first
    | ((with_reducible refine wpList_pg_box (o := ⟨some 2, .box _ _, _, _, _, _⟩) rfl _ rfl p rfl ?_); intro w1 x0 hB1 hs1)
    | fail)
  have HL := Lib.hid (show OnePg w w1 p from ⟨x0, hB1⟩)
  clear x0 hB1 hs1
  refine (awake8_any _).mono ?_
  rintro e w2 ⟨rfl, hb2⟩
  replace HL := Lib.hid (HL.out.on hb2)
  clear hb2
  cases b with
  | true =>
    have L := HL.out
    have h60 := Lib.hid (show (p.take 60).length = 60 by simp [HP.out.1])
    have HSL := Lib.hid (sealedP_length HP.out.1)
    have hsz2 := Nat.lt_of_lt_of_le L.1.lt (Nat.le_refl _)
    have hr : Rd w2 w2.heap.size (some ⟨w.heap.size, 0, none⟩) (bs (p.take 60)) := by (rw [bs_take]; exact (L.rd HP.out.1).front)
    go_wp2_with (first
      | (at_builtin; refine wpList_append_copy _ rfl _ _ _ rfl 5 _ 1 1 elem8 rfl (some ⟨w.heap.size, 0, none⟩) 60 64 rfl (bs (p.take 60)) (by rw [bs_length, h60.out]) hr (bs_one _) (by decide) (by omega) ?_; intro A2 c2 w3 hown hb3)
      | fail)
    replace L := L.on hb3
    have hlt3 : w.heap.size < w3.heap.size := Nat.lt_of_lt_of_le hsz2 hb3.size
    clear hb3 hr hsz2 HL
    refine (rseal_any A2 60 c2 (p.take 60) w3 (by decide) h60.out (fun z hz => HP.out.2 z (List.mem_of_mem_take hz)) (Rd.own hown)).mono ?_
    rintro e w4 ⟨A', c', rfl, hown4, hb4⟩
    replace L := L.on hb4
    have hown4 : w4.ownsRow w3.heap.size 5 1 (.slice A' 64 c') 64 (bs (sealedP p)) := hown4
    obtain ⟨g, rfl, hgb, _⟩ := own_at hown4 (by omega)
    have HO := Lib.hid hown4
    have HL := Lib.hid L
    have HG := Lib.hid (And.intro hgb hlt3)
    clear L hown hb4 hown4 hgb hlt3
    generalize w3.heap.size = B3 at *
    have h5 := Lib.hid (sealedP_mix HP.out.1)
    have HSO := Lib.hid (sealedP_octets HP.out.2)
    generalize hS : sealedP p = S at HSL HO h5 HSO
    have HS := Lib.hid hS
    clear hS
    rw [show (60 : Nat) + 4 = 64 from rfl]
    go_wp2_with fail
    go_loopw [6] (fun i wr => ∃ n : Nat, 60 ≤ n ∧ n ≤ 64 ∧ i = .int .i64 n ∧ OnePg w wr (mix S p n) ∧ wr.ownsRow B3 5 1 (.slice (some ⟨g, 0, none⟩) 64 c') 64 (bs S)) (fun i _ => 64 - (intOf i).toNat)
    case atStart => exact ⟨60, by omega, by omega, rfl, by rw [h5.out]; exact HL.out, HO.out⟩
    case round =>
      clear HL
      obtain ⟨n, hn0, hn1, rfl, hP, hown⟩ := hrel
      by_cases hlt : n < 64
      · have hml : (mix S p n).length = 64 := (mix_length (by rw [HSL.out, HP.out.1]) (by rw [HP.out.1]; exact hn1)).trans HP.out.1
        have c1 := (hown.cellAt n (by omega)).trans (bs_get (by rw [HSL.out]; exact hlt))
        have c0 := (hP.1.cell n).trans (bs_get (by rw [hml]; exact hlt))
        have f0 := hP.1.frozen n
        have HX := Lib.hid (mix_set (S := S) (p := p) (n := n) (by rw [HSL.out, HP.out.1]) (by rw [HP.out.1]; exact hlt))
        generalize S.getD n 0 = s at c1 HX
        generalize (mix S p n).getD n 0 = s0 at c0
        have HH := Lib.hid (And.intro hP hown)
        clear hml hP hown
        go_wp2
        go_roundw
        case rel =>
          refine ⟨n + 1, by omega, by omega, by go_num, ?_, ?_⟩
          · rw [← HX.out]
            exact HH.out.1.setc n s
          · refine own_same HH.out.2 fun g' hg' => heap_setCell_other _ _ _ _ ?_
            injection hg' with hg'
            have : g = g' := hg'
            have := HG.out
            show g' ≠ w.heap.size
            omega
        case measure => simp [intOf]; omega
      · obtain rfl : n = 64 := by omega
        rw [mix_all (by rw [HSL.out, HP.out.1]) HP.out.1.symm] at hP
        have HQ := Lib.hid (And.intro HSL.out HSO.out)
        have HL := Lib.hid (show Bxs w wr [(w.heap.size, 28, bs S)] from ⟨fun x hx => (List.mem_singleton.1 hx) ▸ hP.1, hP.2⟩)
        clear hP hown HO h5 HSL HSO HS
        generalize wr = W at *
        generalize hb1 : w.heap.size = b1 at HL ⊢
        clear hb1
        have R1 := Lib.hid fun w' => msread_any S w' HQ.out.1 HQ.out.2
        have R2 := Lib.hid fun w' => geread_any S w' HQ.out.1 HQ.out.2
        have KA := Lib.hid (Mast.read_ok (p := S))
        have KG := Lib.hid (Mast.gread_ok (p := S))
        have KN := Lib.hid (Mast.not_both (p := S))
        have KI := Lib.hid (read_in HQ.out.2)
        have KS := Lib.hid (gread_seq HQ.out.2)
        generalize readS S = rs at R1 KA KN KI
        generalize readGS S = gs at R2 KG KN KS
        obtain ⟨r, er⟩ := rs
        obtain ⟨g, eg⟩ := gs
        simp only at R1 R2 KA KG KN KI KS
        have hld := LP.out _ _ _ HQ.out.1 HL.out.head
        go_wp2_with fail
        refine (R1.out _).mono ?_
        rintro e v1 ⟨rfl, hb⟩
        replace HL := Lib.hid (HL.out.on hb)
        clear hb R1
        try clear hld
        go_wp2_with (first
          | ((with_reducible refine wpList_ms_alloc (o := ⟨some 7, .alloc _, _, _, _, _⟩) rfl rfl ?_); intro v2 xx hB hs0; clear hs0)
          | ((with_reducible refine wpList_ms_store (o := ⟨none, .store _ _ _, _, _, _, _⟩) rfl _ _ rfl v1.heap.size r m0 rfl rfl xx ?_); intro v3 yy hg hs0; clear hs0; have L := HL.out.made hB hg yy; clear xx hB yy hg HL; have HL := Lib.hid L; clear L; have hld := LP.out _ _ _ HQ.out.1 HL.out.tail.head)
          | fail)
        generalize v1.heap.size = c7 at *
        refine (R2.out _).mono ?_
        rintro e v4 ⟨rfl, hb⟩
        replace HL := Lib.hid (HL.out.on hb)
        clear hb R2
        try clear hld
        go_wp2_with (first
          | ((with_reducible refine wpList_ge_alloc (o := ⟨some 9, .alloc _, _, _, _, _⟩) rfl rfl ?_); intro v5 xx hB hs0; clear hs0)
          | ((with_reducible refine wpList_ge_store (o := ⟨none, .store _ _ _, _, _, _, _⟩) rfl _ _ rfl v4.heap.size g g0 rfl rfl xx ?_); intro v6 yy hg hs0; clear hs0; have L := HL.out.made hB hg yy; clear xx hB yy hg HL; have HL := Lib.hid L; clear L)
          | fail)
        have L := HL.out
        generalize v4.heap.size = c9 at *
        clear HL
        have hq := fun w' => pg_equal w' S S HQ.out.1 HQ.out.1
        rw [beq_self_eq_true] at hq
        have hgd := pg_guard
        by_cases he : er = 0
        · have hf1 : (eg == 0) = false := by simp; exact fun h => KN.out he h
          have hf2 := KA.out he
          have hf3 : ¬ eg = 0 := fun h => KN.out he h
          have hf4 : (eg != 0) = true := by simp; exact hf3
          subst he
          have QA := Lib.hid fun w' => msright_any r w'
          rw [hf2.1] at QA
          have YA := Lib.hid fun w' => mslay_any r w' KI.out
          rw [layS_ok (of_decide_eq_true hf2.1), hf2.2] at YA
          clear hf2 KN KA KG
          refine wp_region_class (fun w' => Bxs w w' [(c9, 38, gcs g), (c7, 24, mcs r), (b1, 28, bs S)]) (by kernel_rfl) (by kernel_rfl) L.drew ?_
          intro X hX f hf hg
          have cp := fun x => LP.out _ _ _ HQ.out.1 (hf x).tail.tail.head
          have ca := fun x => LA.out _ _ _ (hf x).tail.head
          have cg := fun x => LG.out _ _ _ (hf x).head
          have Hf := Lib.hid hf
          have Hg := Lib.hid hg
          clear hf hg L
          try simp only [Act.put, List.setIfInBounds_toArray, List.set_cons_succ, List.set_cons_zero]
          repeat (go_big_quiet_step (first
            | (go_at_call 9; with_reducible exact calls_class (QA.out _) (fun _ hb => Hg.out _ ((Hf.out _).on hb)))
            | (go_at_call 11; with_reducible exact calls_class (YA.out _) (fun _ hb => Hg.out _ ((Hf.out _).on hb)))))
          refine wpQuiet_nil ?_
          rintro _ ⟨x, rfl⟩
          have L := Hf.out x
          clear cp ca cg Hf Hg
          generalize f x = W5 at L ⊢
          clear hX
          go_wp2_with fail
          refine wp_region_class (fun w' => Bxs w w' [(c9, 38, gcs g), (c7, 24, mcs r), (b1, 28, bs S)]) (by kernel_rfl) (by kernel_rfl) L.drew ?_
          intro X hX f hf hg
          have cp := fun x => LP.out _ _ _ HQ.out.1 (hf x).tail.tail.head
          have ca := fun x => LA.out _ _ _ (hf x).tail.head
          have cg := fun x => LG.out _ _ _ (hf x).head
          have Hf := Lib.hid hf
          have Hg := Lib.hid hg
          clear hf hg L
          try simp only [Act.put, List.setIfInBounds_toArray, List.set_cons_succ, List.set_cons_zero]
          repeat (go_big_quiet_step (fail))
          refine wpQuiet_nil ?_
          rintro _ ⟨x, rfl⟩
          have L := Hf.out x
          clear cp ca cg Hf Hg
          generalize f x = W6 at L ⊢
          clear hX
          have HB := Lib.hid L.below
          clear L hq
          go_wp2
          go_ret
          exact ⟨rfl, HB.out⟩
        · have he1 : (er == 0) = false := by simp [he]
          clear KN KA
          by_cases hf0 : eg = 0
          · have hf2 := KG.out hf0
            subst hf0
            have hgk : GOk g := of_decide_eq_true hf2.1
            have QG := Lib.hid fun w' => (rright_any g.conv g.soft g.seq g.size g.opn w')
            rw [Geom.ok_yes hgk.1] at QG
            change Hid (∀ w', Calls Try.prog 18 #[.agg (gcs g).toArray] w' fun e w1 => e = .returned (.bool true) ∧ _) at QG
            have YG := Lib.hid fun w' => gelay_any g w' KS.out
            rw [glayS_ok hgk, hf2.2] at YG
            clear hf2 hgk KG
            refine wp_region_class (fun w' => Bxs w w' [(c9, 38, gcs g), (c7, 24, mcs r), (b1, 28, bs S)]) (by kernel_rfl) (by kernel_rfl) L.drew ?_
            intro X hX f hf hg
            have cp := fun x => LP.out _ _ _ HQ.out.1 (hf x).tail.tail.head
            have ca := fun x => LA.out _ _ _ (hf x).tail.head
            have cg := fun x => LG.out _ _ _ (hf x).head
            have Hf := Lib.hid hf
            have Hg := Lib.hid hg
            clear hf hg L
            try simp only [Act.put, List.setIfInBounds_toArray, List.set_cons_succ, List.set_cons_zero]
            repeat (go_big_quiet_step (fail))
            refine wpQuiet_nil ?_
            rintro _ ⟨x, rfl⟩
            have L := Hf.out x
            clear cp ca cg Hf Hg
            generalize f x = W5 at L ⊢
            clear hX
            go_wp2_with fail
            refine wp_region_class (fun w' => Bxs w w' [(c9, 38, gcs g), (c7, 24, mcs r), (b1, 28, bs S)]) (by kernel_rfl) (by kernel_rfl) L.drew ?_
            intro X hX f hf hg
            have cp := fun x => LP.out _ _ _ HQ.out.1 (hf x).tail.tail.head
            have ca := fun x => LA.out _ _ _ (hf x).tail.head
            have cg := fun x => LG.out _ _ _ (hf x).head
            have Hf := Lib.hid hf
            have Hg := Lib.hid hg
            clear hf hg L
            try simp only [Act.put, List.setIfInBounds_toArray, List.set_cons_succ, List.set_cons_zero]
            repeat (go_big_quiet_step (first
              | (go_at_call 18; with_reducible exact calls_class (QG.out _) (fun _ hb => Hg.out _ ((Hf.out _).on hb)))
              | (go_at_call 19; with_reducible exact calls_class (YG.out _) (fun _ hb => Hg.out _ ((Hf.out _).on hb)))))
            refine wpQuiet_nil ?_
            rintro _ ⟨x, rfl⟩
            have L := Hf.out x
            clear cp ca cg Hf Hg
            generalize f x = W6 at L ⊢
            clear hX
            have HB := Lib.hid L.below
            clear L hq
            go_wp2
            go_ret
            exact ⟨rfl, HB.out⟩
          · have hf1 : (eg == 0) = false := by simp [hf0]
            have hf4 : (eg != 0) = true := by simp; exact hf0
            clear KG
            refine wp_region_class (fun w' => Bxs w w' [(c9, 38, gcs g), (c7, 24, mcs r), (b1, 28, bs S)]) (by kernel_rfl) (by kernel_rfl) L.drew ?_
            intro X hX f hf hg
            have cp := fun x => LP.out _ _ _ HQ.out.1 (hf x).tail.tail.head
            have ca := fun x => LA.out _ _ _ (hf x).tail.head
            have cg := fun x => LG.out _ _ _ (hf x).head
            have Hf := Lib.hid hf
            have Hg := Lib.hid hg
            clear hf hg L
            try simp only [Act.put, List.setIfInBounds_toArray, List.set_cons_succ, List.set_cons_zero]
            repeat (go_big_quiet_step (fail))
            refine wpQuiet_nil ?_
            rintro _ ⟨x, rfl⟩
            have L := Hf.out x
            clear cp ca cg Hf Hg
            generalize f x = W5 at L ⊢
            clear hX
            go_wp2_with fail
            refine wp_region_class (fun w' => Bxs w w' [(c9, 38, gcs g), (c7, 24, mcs r), (b1, 28, bs S)]) (by kernel_rfl) (by kernel_rfl) L.drew ?_
            intro X hX f hf hg
            have cp := fun x => LP.out _ _ _ HQ.out.1 (hf x).tail.tail.head
            have ca := fun x => LA.out _ _ _ (hf x).tail.head
            have cg := fun x => LG.out _ _ _ (hf x).head
            have Hf := Lib.hid hf
            have Hg := Lib.hid hg
            clear hf hg L
            try simp only [Act.put, List.setIfInBounds_toArray, List.set_cons_succ, List.set_cons_zero]
            repeat (go_big_quiet_step (fail))
            refine wpQuiet_nil ?_
            rintro _ ⟨x, rfl⟩
            have L := Hf.out x
            clear cp ca cg Hf Hg
            generalize f x = W6 at L ⊢
            clear hX
            have HB := Lib.hid L.below
            clear L hq
            go_wp2
            go_ret
            exact ⟨rfl, HB.out⟩
  | false =>
    have HQ := HP
    generalize hS : p = S at *
    clear hS
    replace HL := Lib.hid (show Bxs w w2 [(w.heap.size, 28, bs S)] from ⟨fun x hx => (List.mem_singleton.1 hx) ▸ HL.out.1, HL.out.2⟩)
    generalize w2 = W at *
    generalize hb1 : w.heap.size = b1 at HL ⊢
    clear hb1
    have R1 := Lib.hid fun w' => msread_any S w' HQ.out.1 HQ.out.2
    have R2 := Lib.hid fun w' => geread_any S w' HQ.out.1 HQ.out.2
    have KA := Lib.hid (Mast.read_ok (p := S))
    have KG := Lib.hid (Mast.gread_ok (p := S))
    have KN := Lib.hid (Mast.not_both (p := S))
    have KI := Lib.hid (read_in HQ.out.2)
    have KS := Lib.hid (gread_seq HQ.out.2)
    generalize readS S = rs at R1 KA KN KI
    generalize readGS S = gs at R2 KG KN KS
    obtain ⟨r, er⟩ := rs
    obtain ⟨g, eg⟩ := gs
    simp only at R1 R2 KA KG KN KI KS
    have hld := LP.out _ _ _ HQ.out.1 HL.out.head
    go_wp2_with fail
    refine (R1.out _).mono ?_
    rintro e v1 ⟨rfl, hb⟩
    replace HL := Lib.hid (HL.out.on hb)
    clear hb R1
    try clear hld
    go_wp2_with (first
      | ((with_reducible refine wpList_ms_alloc (o := ⟨some 7, .alloc _, _, _, _, _⟩) rfl rfl ?_); intro v2 xx hB hs0; clear hs0)
      | ((with_reducible refine wpList_ms_store (o := ⟨none, .store _ _ _, _, _, _, _⟩) rfl _ _ rfl v1.heap.size r m0 rfl rfl xx ?_); intro v3 yy hg hs0; clear hs0; have L := HL.out.made hB hg yy; clear xx hB yy hg HL; have HL := Lib.hid L; clear L; have hld := LP.out _ _ _ HQ.out.1 HL.out.tail.head)
      | fail)
    generalize v1.heap.size = c7 at *
    refine (R2.out _).mono ?_
    rintro e v4 ⟨rfl, hb⟩
    replace HL := Lib.hid (HL.out.on hb)
    clear hb R2
    try clear hld
    go_wp2_with (first
      | ((with_reducible refine wpList_ge_alloc (o := ⟨some 9, .alloc _, _, _, _, _⟩) rfl rfl ?_); intro v5 xx hB hs0; clear hs0)
      | ((with_reducible refine wpList_ge_store (o := ⟨none, .store _ _ _, _, _, _, _⟩) rfl _ _ rfl v4.heap.size g g0 rfl rfl xx ?_); intro v6 yy hg hs0; clear hs0; have L := HL.out.made hB hg yy; clear xx hB yy hg HL; have HL := Lib.hid L; clear L)
      | fail)
    have L := HL.out
    generalize v4.heap.size = c9 at *
    clear HL
    have hq := fun w' => pg_equal w' S S HQ.out.1 HQ.out.1
    rw [beq_self_eq_true] at hq
    have hgd := pg_guard
    by_cases he : er = 0
    · have hf1 : (eg == 0) = false := by simp; exact fun h => KN.out he h
      have hf2 := KA.out he
      have hf3 : ¬ eg = 0 := fun h => KN.out he h
      have hf4 : (eg != 0) = true := by simp; exact hf3
      subst he
      have QA := Lib.hid fun w' => msright_any r w'
      rw [hf2.1] at QA
      have YA := Lib.hid fun w' => mslay_any r w' KI.out
      rw [layS_ok (of_decide_eq_true hf2.1), hf2.2] at YA
      clear hf2 KN KA KG
      refine wp_region_class (fun w' => Bxs w w' [(c9, 38, gcs g), (c7, 24, mcs r), (b1, 28, bs S)]) (by kernel_rfl) (by kernel_rfl) L.drew ?_
      intro X hX f hf hg
      have cp := fun x => LP.out _ _ _ HQ.out.1 (hf x).tail.tail.head
      have ca := fun x => LA.out _ _ _ (hf x).tail.head
      have cg := fun x => LG.out _ _ _ (hf x).head
      have Hf := Lib.hid hf
      have Hg := Lib.hid hg
      clear hf hg L
      try simp only [Act.put, List.setIfInBounds_toArray, List.set_cons_succ, List.set_cons_zero]
      repeat (go_big_quiet_step (first
        | (go_at_call 9; with_reducible exact calls_class (QA.out _) (fun _ hb => Hg.out _ ((Hf.out _).on hb)))
        | (go_at_call 11; with_reducible exact calls_class (YA.out _) (fun _ hb => Hg.out _ ((Hf.out _).on hb)))))
      refine wpQuiet_nil ?_
      rintro _ ⟨x, rfl⟩
      have L := Hf.out x
      clear cp ca cg Hf Hg
      generalize f x = W5 at L ⊢
      clear hX
      go_wp2_with fail
      refine wp_region_class (fun w' => Bxs w w' [(c9, 38, gcs g), (c7, 24, mcs r), (b1, 28, bs S)]) (by kernel_rfl) (by kernel_rfl) L.drew ?_
      intro X hX f hf hg
      have cp := fun x => LP.out _ _ _ HQ.out.1 (hf x).tail.tail.head
      have ca := fun x => LA.out _ _ _ (hf x).tail.head
      have cg := fun x => LG.out _ _ _ (hf x).head
      have Hf := Lib.hid hf
      have Hg := Lib.hid hg
      clear hf hg L
      try simp only [Act.put, List.setIfInBounds_toArray, List.set_cons_succ, List.set_cons_zero]
      repeat (go_big_quiet_step (fail))
      refine wpQuiet_nil ?_
      rintro _ ⟨x, rfl⟩
      have L := Hf.out x
      clear cp ca cg Hf Hg
      generalize f x = W6 at L ⊢
      clear hX
      have HB := Lib.hid L.below
      clear L hq
      go_wp2
      go_ret
      exact ⟨rfl, HB.out⟩
    · have he1 : (er == 0) = false := by simp [he]
      clear KN KA
      by_cases hf0 : eg = 0
      · have hf2 := KG.out hf0
        subst hf0
        have hgk : GOk g := of_decide_eq_true hf2.1
        have QG := Lib.hid fun w' => (rright_any g.conv g.soft g.seq g.size g.opn w')
        rw [Geom.ok_yes hgk.1] at QG
        change Hid (∀ w', Calls Try.prog 18 #[.agg (gcs g).toArray] w' fun e w1 => e = .returned (.bool true) ∧ _) at QG
        have YG := Lib.hid fun w' => gelay_any g w' KS.out
        rw [glayS_ok hgk, hf2.2] at YG
        clear hf2 hgk KG
        refine wp_region_class (fun w' => Bxs w w' [(c9, 38, gcs g), (c7, 24, mcs r), (b1, 28, bs S)]) (by kernel_rfl) (by kernel_rfl) L.drew ?_
        intro X hX f hf hg
        have cp := fun x => LP.out _ _ _ HQ.out.1 (hf x).tail.tail.head
        have ca := fun x => LA.out _ _ _ (hf x).tail.head
        have cg := fun x => LG.out _ _ _ (hf x).head
        have Hf := Lib.hid hf
        have Hg := Lib.hid hg
        clear hf hg L
        try simp only [Act.put, List.setIfInBounds_toArray, List.set_cons_succ, List.set_cons_zero]
        repeat (go_big_quiet_step (fail))
        refine wpQuiet_nil ?_
        rintro _ ⟨x, rfl⟩
        have L := Hf.out x
        clear cp ca cg Hf Hg
        generalize f x = W5 at L ⊢
        clear hX
        go_wp2_with fail
        refine wp_region_class (fun w' => Bxs w w' [(c9, 38, gcs g), (c7, 24, mcs r), (b1, 28, bs S)]) (by kernel_rfl) (by kernel_rfl) L.drew ?_
        intro X hX f hf hg
        have cp := fun x => LP.out _ _ _ HQ.out.1 (hf x).tail.tail.head
        have ca := fun x => LA.out _ _ _ (hf x).tail.head
        have cg := fun x => LG.out _ _ _ (hf x).head
        have Hf := Lib.hid hf
        have Hg := Lib.hid hg
        clear hf hg L
        try simp only [Act.put, List.setIfInBounds_toArray, List.set_cons_succ, List.set_cons_zero]
        repeat (go_big_quiet_step (first
          | (go_at_call 18; with_reducible exact calls_class (QG.out _) (fun _ hb => Hg.out _ ((Hf.out _).on hb)))
          | (go_at_call 19; with_reducible exact calls_class (YG.out _) (fun _ hb => Hg.out _ ((Hf.out _).on hb)))))
        refine wpQuiet_nil ?_
        rintro _ ⟨x, rfl⟩
        have L := Hf.out x
        clear cp ca cg Hf Hg
        generalize f x = W6 at L ⊢
        clear hX
        have HB := Lib.hid L.below
        clear L hq
        go_wp2
        go_ret
        exact ⟨rfl, HB.out⟩
      · have hf1 : (eg == 0) = false := by simp [hf0]
        have hf4 : (eg != 0) = true := by simp; exact hf0
        clear KG
        refine wp_region_class (fun w' => Bxs w w' [(c9, 38, gcs g), (c7, 24, mcs r), (b1, 28, bs S)]) (by kernel_rfl) (by kernel_rfl) L.drew ?_
        intro X hX f hf hg
        have cp := fun x => LP.out _ _ _ HQ.out.1 (hf x).tail.tail.head
        have ca := fun x => LA.out _ _ _ (hf x).tail.head
        have cg := fun x => LG.out _ _ _ (hf x).head
        have Hf := Lib.hid hf
        have Hg := Lib.hid hg
        clear hf hg L
        try simp only [Act.put, List.setIfInBounds_toArray, List.set_cons_succ, List.set_cons_zero]
        repeat (go_big_quiet_step (fail))
        refine wpQuiet_nil ?_
        rintro _ ⟨x, rfl⟩
        have L := Hf.out x
        clear cp ca cg Hf Hg
        generalize f x = W5 at L ⊢
        clear hX
        go_wp2_with fail
        refine wp_region_class (fun w' => Bxs w w' [(c9, 38, gcs g), (c7, 24, mcs r), (b1, 28, bs S)]) (by kernel_rfl) (by kernel_rfl) L.drew ?_
        intro X hX f hf hg
        have cp := fun x => LP.out _ _ _ HQ.out.1 (hf x).tail.tail.head
        have ca := fun x => LA.out _ _ _ (hf x).tail.head
        have cg := fun x => LG.out _ _ _ (hf x).head
        have Hf := Lib.hid hf
        have Hg := Lib.hid hg
        clear hf hg L
        try simp only [Act.put, List.setIfInBounds_toArray, List.set_cons_succ, List.set_cons_zero]
        repeat (go_big_quiet_step (fail))
        refine wpQuiet_nil ?_
        rintro _ ⟨x, rfl⟩
        have L := Hf.out x
        clear cp ca cg Hf Hg
        generalize f x = W6 at L ⊢
        clear hX
        have HB := Lib.hid L.below
        clear L hq
        go_wp2
        go_ret
        exact ⟨rfl, HB.out⟩
end Go.Proofs.Ytoehflalpidhfaa

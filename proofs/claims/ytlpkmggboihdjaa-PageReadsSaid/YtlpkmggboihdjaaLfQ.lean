/-
  The walk of the law PageReads.
-/
import Derived.Test.YtlpkmggboihdjaaLfO
import Derived.Test.YtlpkmggboihdjaaRecH
namespace Go.Proofs.Ytlpkmggboihdjaa
open Go.RowKit Word Crc Leaf
set_option linter.unusedVariables false

theorem OneSt.setc {w W : World} {p : List Int} (h : OneSt w W p) (n : Nat) (v : Int) : OneSt w (W.setCell ⟨w.heap.size, n, none⟩ (.int .u8 v)) (p.set n v) := by
  refine ⟨?_, h.2.setCell (Nat.le_refl _) _⟩
  have := h.1.set n (.int .u8 v)
  rwa [← bs_set] at this
theorem OneSt.rd {w W : World} {p : List Int} (h : OneSt w W p) (hp : p.length = 64) : Rd W W.heap.size (some ⟨w.heap.size, 0, none⟩) (bs p) := Rd.own (h.1.own (n := 64) (by rw [bs_length, hp]) (by decide) 0 (Nat.zero_le _))
set_option maxRecDepth 100000 in
set_option maxHeartbeats 4000000 in
theorem lflaw_reads (p : List Int) (b : Bool) (w : World) (hl : p.length = 64) (hp : octets p) :
    Calls Try.prog 4 #[.agg (bs p).toArray, .bool b] w fun e w' => e = .returned (.bool true) ∧ Below w.heap.size w w' := by
  obtain ⟨m, hm, hsz⟩ := big_size (P := Try.prog) (t := 28) (s := 64) (by kernel_rfl)
  obtain ⟨mr, hmr, hszr⟩ := big_size (P := Try.prog) (t := 24) (s := 12) (by kernel_rfl)
  have hm0 : ¬ m = 0 := by omega
  have hmr0 : ¬ mr = 0 := by omega
  have HP := Lib.hid (And.intro hl hp)
  have HM := Lib.hid (And.intro hm hmr)
  have LP := Lib.hid fun (W : World) (q : List Int) (hq : q.length = 64) (L : OneSt w W q) => big_load0 Try.prog w.heap.size 0 (bs q) m (by rw [bs_length, hq, HM.out.1]) W L.1.range0
  have LD := Lib.hid fun (W : World) (g : Nat) (c : Lf) (hc : In c) (h : Box W g 24 (lcs c)) => big_load0 Try.prog g 0 (lcs c) mr (by rw [lcs_length hc, HM.out.2]) W h.range0
  clear hm hmr hl hp
  go_enter Try.func4, Try.ntmps4
  go_wp2_with (first
    | ((with_reducible refine wpList_pg_box (o := ⟨some 2, .box _ _, _, _, _, _⟩) rfl _ rfl p rfl ?_); intro w1 x0 hB1 hs1)
    | fail)
  have HL := Lib.hid (show OneSt w w1 p from ⟨x0, hB1⟩)
  clear x0 hB1 hs1
  refine (awake7_any _).mono ?_
  rintro e w2 ⟨rfl, hb2⟩
  replace HL := Lib.hid (HL.out.on hb2)
  clear hb2
  cases b with
  | true =>
    have L := HL.out
    have h60 := Lib.hid (show (p.take 60).length = 60 by simp [HP.out.1])
    have HSL := Lib.hid (sealedP_length HP.out.1)
    have hsz2 := Nat.lt_of_lt_of_le L.1.lt (Nat.le_refl _)
    have hr : Rd w2 w2.heap.size (some ⟨w.heap.size, 0, none⟩) (bs (p.take 60)) := by (rw [bs_take]; exact (L.rd HP.out.1).front)
    go_wp2_with (first
      | (at_builtin; refine wpList_append_copy _ rfl _ _ _ rfl 5 _ 1 1 elem8 rfl (some ⟨w.heap.size, 0, none⟩) 60 64 rfl (bs (p.take 60)) (by rw [bs_length, h60.out]) hr (bs_one _) (by decide) (by omega) ?_; intro A2 c2 w3 hown hb3)
      | fail)
    replace L := L.on hb3
    have hlt3 : w.heap.size < w3.heap.size := Nat.lt_of_lt_of_le hsz2 hb3.size
    clear hb3 hr hsz2 HL
    refine (rseal_any A2 60 c2 (p.take 60) w3 (by decide) h60.out (fun z hz => HP.out.2 z (List.mem_of_mem_take hz)) (Rd.own hown)).mono ?_
    rintro e w4 ⟨A', c', rfl, hown4, hb4⟩
    replace L := L.on hb4
    have hown4 : w4.ownsRow w3.heap.size 5 1 (.slice A' 64 c') 64 (bs (sealedP p)) := hown4
    obtain ⟨g, rfl, hgb, _⟩ := own_at hown4 (by omega)
    have HO := Lib.hid hown4
    have HL := Lib.hid L
    have HG := Lib.hid (And.intro hgb hlt3)
    clear L hown hb4 hown4 hgb hlt3
    generalize w3.heap.size = B3 at *
    have h5 := Lib.hid (sealedP_mix HP.out.1)
    have HSO := Lib.hid (sealedP_octets HP.out.2)
    generalize hS : sealedP p = S at HSL HO h5 HSO
    have HS := Lib.hid hS
    clear hS
    rw [show (60 : Nat) + 4 = 64 from rfl]
    go_wp2_with fail
    go_loopw [6] (fun i wr => ∃ n : Nat, 60 ≤ n ∧ n ≤ 64 ∧ i = .int .i64 n ∧ OneSt w wr (mix S p n) ∧ wr.ownsRow B3 5 1 (.slice (some ⟨g, 0, none⟩) 64 c') 64 (bs S)) (fun i _ => 64 - (intOf i).toNat)
    case atStart => exact ⟨60, by omega, by omega, rfl, by rw [h5.out]; exact HL.out, HO.out⟩
    case round =>
      clear HL
      obtain ⟨n, hn0, hn1, rfl, hP, hown⟩ := hrel
      by_cases hlt : n < 64
      · have hml : (mix S p n).length = 64 := (mix_length (by rw [HSL.out, HP.out.1]) (by rw [HP.out.1]; exact hn1)).trans HP.out.1
        have c1 := (hown.cellAt n (by omega)).trans (bs_get (by rw [HSL.out]; exact hlt))
        have c0 := (hP.1.cell n).trans (bs_get (by rw [hml]; exact hlt))
        have f0 := hP.1.frozen n
        have HX := Lib.hid (mix_set (S := S) (p := p) (n := n) (by rw [HSL.out, HP.out.1]) (by rw [HP.out.1]; exact hlt))
        generalize S.getD n 0 = s at c1 HX
        generalize (mix S p n).getD n 0 = s0 at c0
        have HH := Lib.hid (And.intro hP hown)
        clear hml hP hown
        go_wp2
        go_roundw
        case rel =>
          refine ⟨n + 1, by omega, by omega, by go_num, ?_, ?_⟩
          · rw [← HX.out]
            exact HH.out.1.setc n s
          · refine own_same HH.out.2 fun g' hg' => heap_setCell_other _ _ _ _ ?_
            injection hg' with hg'
            have : g = g' := hg'
            have := HG.out
            show g' ≠ w.heap.size
            omega
        case measure => simp [intOf]; omega
      · obtain rfl : n = 64 := by omega
        rw [mix_all (by rw [HSL.out, HP.out.1]) HP.out.1.symm] at hP
        have HQ := Lib.hid (And.intro HSL.out HSO.out)
        have HL := Lib.hid hP
        clear hP hown HO h5 HSL HSO HS
        have hld := LP.out _ _ HQ.out.1 HL.out
        go_wp2_with fail
        refine (lfread_any S _ HQ.out.1 HQ.out.2).mono ?_
        rintro e w5 ⟨rfl, hb5⟩
        replace HL := Lib.hid (HL.out.on hb5)
        clear hb5 hld
        have hld := LP.out _ _ HQ.out.1 HL.out
        have HI := Lib.hid (read_in S)
        have HRR := Lib.hid fun w' => rread7_any S w' HQ.out.1 HQ.out.2
        rw [read_eq HQ.out.1 HQ.out.2] at HRR
        generalize readS S = rs at HI HRR ⊢
        obtain ⟨r, er⟩ := rs
        simp only at HI HRR ⊢
        go_wp2_with (first
          | ((with_reducible refine wpList_lf_alloc (o := ⟨some 7, .alloc _, _, _, _, _⟩) rfl rfl ?_); intro w6 x6 hB6 _)
          | ((with_reducible refine wpList_lf_store (o := ⟨none, .store _ _ _, _, _, _, _⟩) rfl _ _ rfl w5.heap.size r lf0 HI.out lf0_in rfl rfl x6 ?_); intro w7 x7 hg7 _; have h57 := below_stored hB6 hg7 hB6.size (Nat.le_refl _); have HL2 := Lib.hid (And.intro (HL.out.on h57) x7); have hld7 := LP.out _ _ HQ.out.1 HL2.out.1)
          | fail)
        clear x6 hB6 x7 hg7 h57 HL hld
        generalize w5.heap.size = bx at *
        refine (HRR.out _).mono ?_
        rintro e w8 ⟨rfl, hb8⟩
        replace HL2 := Lib.hid (And.intro (HL2.out.1.on hb8) (HL2.out.2.on hb8))
        clear hb8 hld7 HRR
        have hq := fun w' => equal_leaf w' r r HI.out HI.out
        rw [(lfEq_iff r r).2 rfl] at hq
        have hgd := guard_leaf
        have hee : (er == er) = true := by simp
        go_wp2_with (first
          | ((with_reducible refine wpList_lf_alloc (o := ⟨some 9, .alloc _, _, _, _, _⟩) rfl rfl ?_); intro w9 x9 hB9 _)
          | ((with_reducible refine wpList_lf_store (o := ⟨none, .store _ _ _, _, _, _, _⟩) rfl _ _ rfl w8.heap.size r lf0 HI.out lf0_in rfl rfl x9 ?_); intro w10 x10 hg10 _; have h810 := below_stored hB9 hg10 hB9.size (Nat.le_refl _); have HL3 := Lib.hid (And.intro (HL2.out.1.on h810) (HL2.out.2.on h810)); have l1 := LD.out w10 bx r HI.out HL3.out.2; have l2 := LD.out w10 w8.heap.size r HI.out x10)
          | fail)
        go_ret
        exact ⟨ret_bool (by simp), HL3.out.1.2⟩
  | false =>
    have HQ := HP
    generalize hS : p = S at *
    clear hS
    have hld := LP.out _ _ HQ.out.1 HL.out
    go_wp2_with fail
    refine (lfread_any S _ HQ.out.1 HQ.out.2).mono ?_
    rintro e w5 ⟨rfl, hb5⟩
    replace HL := Lib.hid (HL.out.on hb5)
    clear hb5 hld
    have hld := LP.out _ _ HQ.out.1 HL.out
    have HI := Lib.hid (read_in S)
    have HRR := Lib.hid fun w' => rread7_any S w' HQ.out.1 HQ.out.2
    rw [read_eq HQ.out.1 HQ.out.2] at HRR
    generalize readS S = rs at HI HRR ⊢
    obtain ⟨r, er⟩ := rs
    simp only at HI HRR ⊢
    go_wp2_with (first
      | ((with_reducible refine wpList_lf_alloc (o := ⟨some 7, .alloc _, _, _, _, _⟩) rfl rfl ?_); intro w6 x6 hB6 _)
      | ((with_reducible refine wpList_lf_store (o := ⟨none, .store _ _ _, _, _, _, _⟩) rfl _ _ rfl w5.heap.size r lf0 HI.out lf0_in rfl rfl x6 ?_); intro w7 x7 hg7 _; have h57 := below_stored hB6 hg7 hB6.size (Nat.le_refl _); have HL2 := Lib.hid (And.intro (HL.out.on h57) x7); have hld7 := LP.out _ _ HQ.out.1 HL2.out.1)
      | fail)
    clear x6 hB6 x7 hg7 h57 HL hld
    generalize w5.heap.size = bx at *
    refine (HRR.out _).mono ?_
    rintro e w8 ⟨rfl, hb8⟩
    replace HL2 := Lib.hid (And.intro (HL2.out.1.on hb8) (HL2.out.2.on hb8))
    clear hb8 hld7 HRR
    have hq := fun w' => equal_leaf w' r r HI.out HI.out
    rw [(lfEq_iff r r).2 rfl] at hq
    have hgd := guard_leaf
    have hee : (er == er) = true := by simp
    go_wp2_with (first
      | ((with_reducible refine wpList_lf_alloc (o := ⟨some 9, .alloc _, _, _, _, _⟩) rfl rfl ?_); intro w9 x9 hB9 _)
      | ((with_reducible refine wpList_lf_store (o := ⟨none, .store _ _ _, _, _, _, _⟩) rfl _ _ rfl w8.heap.size r lf0 HI.out lf0_in rfl rfl x9 ?_); intro w10 x10 hg10 _; have h810 := below_stored hB9 hg10 hB9.size (Nat.le_refl _); have HL3 := Lib.hid (And.intro (HL2.out.1.on h810) (HL2.out.2.on h810)); have l1 := LD.out w10 bx r HI.out HL3.out.2; have l2 := LD.out w10 w8.heap.size r HI.out x10)
      | fail)
    go_ret
    exact ⟨ret_bool (by simp), HL3.out.1.2⟩
end Go.Proofs.Ytlpkmggboihdjaa

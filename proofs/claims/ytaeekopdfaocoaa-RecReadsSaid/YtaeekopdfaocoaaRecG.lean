/-
  Layer 6: the arguments opened; the law's 'sealed'.
-/
import Derived.Test.YtaeekopdfaocoaaRecF
import Derived.Test.YtaeekopdfaocoaaCrcF
import Derived.Test.YtaeekopdfaocoaaOpen
namespace Go.Proofs.Ytaeekopdfaocoaa
open Go.RowKit Word Crc Rec
set_option linter.unusedVariables false

set_option maxRecDepth 100000 in
theorem open_page {H : Type} {enc : TypeId × Value → H} {w : World} {base b0 : Nat} {r : Reach} {sp : Nat → Bool} {held : Bool} {v : Value} {d : DataW H} {ps : List MemPlace}
    (hu : Value.okWide Try.prog w r b0 29 v) (h : DataW.Trod enc Try.prog w base sp held 29 v d ps) : ∃ p : List Int, v = .agg (bs p).toArray ∧ p.length = 64 ∧ octets p := by
  obtain ⟨cs, rfl, hs⟩ := has_agg (s := .rep 64 1 (.int .u8)) 3 (by kernel_rfl) h hu (.inr ⟨_, _, Try.underlying29⟩)
  obtain ⟨ws, h1, rfl, h3⟩ := has_ints hs
  exact ⟨ws, rfl, h1, wf_u8 h3⟩
set_option maxRecDepth 100000 in
theorem open_rec {H : Type} {enc : TypeId × Value → H} {w : World} {base b0 : Nat} {r : Reach} {sp : Nat → Bool} {held : Bool} {v : Value} {d : DataW H} {ps : List MemPlace}
    (hu : Value.okWide Try.prog w r b0 25 v) (h : DataW.Trod enc Try.prog w base sp held 25 v d ps) : ∃ x : Rc, v = .agg (rcs x).toArray ∧ In x := by
  obtain ⟨cs, rfl, hs⟩ := has_agg (s := .pair 1 (.int .i64) (.pair 1 (.int .i64) (.pair 1 (.int .i64) (.pair 1 (.int .i64) (.pair 1 (.int .i64) (.pair 32 (.rep 32 1 (.int .u8)) .nil)))))) 3 (by kernel_rfl) h hu (.inl ⟨_, Try.underlying25⟩)
  obtain ⟨_, _, rfl, _, ⟨k, rfl, _⟩, _, _, rfl, _, ⟨e, rfl, _⟩, _, _, rfl, _, ⟨s, rfl, _⟩, _, _, rfl, _, ⟨b, rfl, _⟩, _, _, rfl, _, ⟨c, rfl, _⟩, _, _, rfl, _, hd, rfl⟩ := hs
  obtain ⟨ws, h1, rfl, h3⟩ := has_ints hd
  refine ⟨⟨k, e, s, b, c, ws⟩, ?_, h1, wf_u8 h3⟩
  simp [rcs, bs]

/-- a row laid over another from the front -/
def mix (S p : List Int) (n : Nat) : List Int := S.take n ++ p.drop n
theorem mix_length {S p : List Int} {n : Nat} (h : S.length = p.length) (hn : n ≤ p.length) : (mix S p n).length = p.length := by simp [mix, h]; omega
theorem mix_set {S p : List Int} {n : Nat} (h : S.length = p.length) (hn : n < p.length) : (mix S p n).set n (S.getD n 0) = mix S p (n + 1) := by
  unfold mix
  have e : (S.take n).length = n := by simp; omega
  rw [List.set_append_right _ _ (by omega), e, Nat.sub_self, List.drop_eq_getElem_cons hn, List.set_cons_zero, List.take_succ_eq_append_getElem (by omega), List.append_assoc]
  simp [List.getD_eq_getElem?_getD, List.getElem?_eq_getElem (show n < S.length by omega)]
theorem mix_all {S p : List Int} {n : Nat} (h : S.length = p.length) (hn : n = p.length) : mix S p n = S := by
  unfold mix
  rw [List.drop_eq_nil_of_le (by omega), List.append_nil, List.take_of_length_le (by omega)]
theorem mix_zero (S p : List Int) : mix S p 0 = p := by simp [mix]

def sealedP (p : List Int) : List Int := sealed (p.take 60)
theorem sealedP_length {p : List Int} (h : p.length = 64) : (sealedP p).length = 64 := by unfold sealedP; rw [sealed_length]; simp [h]
theorem sealedP_octets {p : List Int} (h : octets p) : octets (sealedP p) := sealed_octets fun z hz => h z (List.mem_of_mem_take hz)
theorem sealedP_mix {p : List Int} (h : p.length = 64) : mix (sealedP p) p 60 = p := by
  unfold mix sealedP
  rw [sealed_take _ 60 (by simp [h]), List.take_append_drop]

/-- a page, and the answer's page beside it -/
def PgSt (w W : World) (p : List Int) : Prop := Box W w.heap.size 29 (bs p) ∧ Box W (w.heap.size + 1) 29 (bs pg0) ∧ Below w.heap.size w W ∧ w.heap.size + 2 ≤ W.heap.size
theorem PgSt.on {w W W' : World} {p : List Int} (h : PgSt w W p) (hb : Below W.heap.size W W') : PgSt w W' p := ⟨h.1.on hb, h.2.1.on hb, bthen h.2.2.1 hb, Nat.le_trans h.2.2.2 hb.size⟩
theorem PgSt.start {w w1 w2 : World} {p : List Int} (x0 : Box w1 w.heap.size 29 (bs p)) (hB1 : Below w.heap.size w w1) (hs1 : w1.heap.size = w.heap.size + 1) (x1 : Box w2 w1.heap.size 29 (bs pg0)) (hB2 : Below w1.heap.size w1 w2) (hs2 : w2.heap.size = w1.heap.size + 1) : PgSt w w2 p := by
  rw [hs1] at x1
  exact ⟨x0.below hB2 (by omega), x1, bthen hB1 hB2, by omega⟩
theorem PgSt.set {w W : World} {p : List Int} (h : PgSt w W p) (n : Nat) (v : Int) : PgSt w (W.setCell ⟨w.heap.size, n, none⟩ (.int .u8 v)) (p.set n v) := by
  refine ⟨?_, h.2.1.same (heap_setCell_other _ _ _ _ (show w.heap.size + 1 ≠ w.heap.size by omega)), h.2.2.1.setCell (Nat.le_refl _) _, by have := h.2.2.2; simpa [World.setCell] using this⟩
  have := h.1.set n (.int .u8 v)
  rwa [← bs_set] at this
theorem PgSt.rd {w W : World} {p : List Int} (h : PgSt w W p) (hp : p.length = 64) : Rd W W.heap.size (some ⟨w.heap.size, 0, none⟩) (bs p) := Rd.own (h.1.own (n := 64) (by rw [bs_length, hp]) (by decide) 0 (Nat.zero_le _))

set_option maxRecDepth 100000 in
set_option maxHeartbeats 2000000 in
theorem lawsealed_any (p : List Int) (w : World) (hl : p.length = 64) (hp : octets p) :
    Calls Try.prog 13 #[.agg (bs p).toArray] w fun e w' => e = .returned (.agg (bs (sealedP p)).toArray) ∧ Below w.heap.size w w' := by
  obtain ⟨m, hm, hsz⟩ := big_size (P := Try.prog) (t := 29) (s := 64) (by kernel_rfl)
  have hm0 : ¬ m = 0 := by omega
  have HM := Lib.hid hm
  have HP := Lib.hid (And.intro hl hp)
  have h60 := Lib.hid (show (p.take 60).length = 60 by simp [hl])
  have HSL := Lib.hid (sealedP_length hl)
  clear hm hl hp
  go_enter Try.func13, Try.ntmps13
  go_wp2_with (first
    | ((with_reducible refine wpList_pg_box (o := ⟨some 1, .box _ _, _, _, _, _⟩) rfl _ rfl p rfl ?_); intro w1 x0 hB1 hs1)
    | ((with_reducible refine wpList_pg_alloc (o := ⟨some 2, .alloc _, _, _, _, _⟩) rfl rfl ?_); intro w2 x1 hB2 hs2; have L := PgSt.start x0 hB1 hs1 x1 hB2 hs2; rw [hs1]; clear hs1 hs2 x0 x1 hB1 hB2; have hr : Rd w2 w2.heap.size (some ⟨w.heap.size, 0, none⟩) (bs (p.take 60)) := by (rw [bs_take]; exact (L.rd HP.out.1).front))
    | (at_builtin; refine wpList_append_copy _ rfl _ _ _ rfl 5 _ 1 1 elem8 rfl (some ⟨w.heap.size, 0, none⟩) 60 64 rfl (bs (p.take 60)) (by rw [bs_length, h60.out]) hr (bs_one _) (by decide) (by omega) ?_; intro A2 c2 w3 hown hb3)
    | fail)
  replace L := L.on hb3
  clear hb3 hr
  refine (rseal_any A2 60 c2 (p.take 60) w3 (by decide) h60.out (fun z hz => HP.out.2 z (List.mem_of_mem_take hz)) (Rd.own hown)).mono ?_
  rintro e w4 ⟨A', c', rfl, hown4, hb4⟩
  have h3 := L.2.2.2
  replace L := L.on hb4
  have hown4 : w4.ownsRow w3.heap.size 5 1 (.slice A' 64 c') 64 (bs (sealedP p)) := hown4
  obtain ⟨g, rfl, hgb, _⟩ := own_at hown4 (by omega)
  have HO := Lib.hid hown4
  have HL := Lib.hid L
  clear L hown hb4 hown4
  generalize w3.heap.size = B3 at *
  have h5 := Lib.hid (sealedP_mix HP.out.1)
  generalize hS : sealedP p = S at HSL HO h5
  have HS := Lib.hid hS
  clear hS
  rw [show (60 : Nat) + 4 = 64 from rfl]
  go_wp2_with fail
  go_loopw [4] (fun i wr => ∃ n : Nat, 60 ≤ n ∧ n ≤ 64 ∧ i = .int .i64 n ∧ PgSt w wr (mix S p n) ∧ wr.ownsRow B3 5 1 (.slice (some ⟨g, 0, none⟩) 64 c') 64 (bs S)) (fun i _ => 64 - (intOf i).toNat)
  case atStart => exact ⟨60, by omega, by omega, rfl, by rw [h5.out]; exact HL.out, HO.out⟩
  case round =>
    obtain ⟨n, hn0, hn1, rfl, hP, hown⟩ := hrel
    by_cases hlt : n < 64
    · have hml : (mix S p n).length = 64 := (mix_length (by rw [HSL.out, HP.out.1]) (by rw [HP.out.1]; exact hn1)).trans HP.out.1
      have c1 := (hown.cellAt n (by omega)).trans (bs_get (by rw [HSL.out]; exact hlt))
      have c0 := (hP.1.cell n).trans (bs_get (by rw [hml]; exact hlt))
      have f0 := hP.1.frozen n
      have HX := Lib.hid (mix_set (S := S) (p := p) (n := n) (by rw [HSL.out, HP.out.1]) (by rw [HP.out.1]; exact hlt))
      generalize S.getD n 0 = s at c1 HX
      generalize (mix S p n).getD n 0 = s0 at c0
      have HH := Lib.hid (And.intro hP hown)
      clear hml hP hown
      go_wp2
      go_roundw
      case rel =>
        refine ⟨n + 1, by omega, by omega, by go_num, ?_, ?_⟩
        · rw [← HX.out]
          exact HH.out.1.set n s
        · refine own_same HH.out.2 fun g' hg' => heap_setCell_other _ _ _ _ ?_
          injection hg' with hg'
          have : g = g' := hg'
          show g' ≠ w.heap.size
          omega
      case measure => simp [intOf]; omega
    · obtain rfl : n = 64 := by omega
      rw [mix_all (by rw [HSL.out, HP.out.1]) HP.out.1.symm] at hP
      have hld := big_load0 Try.prog w.heap.size 0 (bs S) m (by rw [bs_length, HSL.out, HM.out]) _ hP.1.range0
      have HX := Lib.hid hP.2.1
      have HB := Lib.hid hP.2.2
      clear hP hown
      go_wp2_with (first
        | ((with_reducible refine wpList_pg_store (o := ⟨none, .store _ _ _, _, _, _, _⟩) rfl _ _ rfl (w.heap.size + 1) S pg0 HSL.out rfl rfl rfl HX.out ?_); intro w9 hb9 hg9 _)
        | fail)
      have hldF := big_load0 Try.prog (w.heap.size + 1) 0 (bs S) m (by rw [bs_length, HSL.out, HM.out]) _ hb9.range0
      generalize hR : bs S = R at hldF ⊢
      exact bodyPost_ret (v := .agg R.toArray) (by simp [results, Try.results13, go_sem, hsz, hldF]) rfl ⟨by rw [HS.out, hR], below_stored HB.out.1 hg9 HB.out.1.size (by omega)⟩
end Go.Proofs.Ytaeekopdfaocoaa

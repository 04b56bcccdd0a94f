/-
  RecF Mix RecG RecK
-/
import Derived.Test.YtgnpohkippegpaaGreatMg23
import Derived.WalkKit
import Derived.Test.YtgnpohkippegpaaGreatMg20
import Derived.Test.YtgnpohkippegpaaGreatMg05
/-
  'awake' of layer 6 answers true.
-/
namespace Go.Proofs.YtgnpohkippegpaaGreat
open Go.RowKit Word Crc Rec
set_option linter.unusedVariables false

/-- an array or a struct built of parts, what comes of it being known -/
theorem wpList_build_known {P : Program} {w : World} {ops : Array Oper} {rest : List Oper} {o : Oper} {a : Act} {Q : Exit → Act → World → Prop} (hgd : o.guard = none) (t : TypeId) (ps : Array (Nat × Operand)) (vs : Array (Nat × Value)) (ho : o.op = .build t ps) (hv : (ps.map fun (i, x) => (i, a.eval x)) = vs) (cs : List Value) (hb : ∀ w, (Instr.build t vs).run P w = .ok (.agg cs.toArray) w)
    (h : wpList P ops Q rest (a.put o.dst (.agg cs.toArray)) w) : wpList P ops Q (o :: rest) a w := by
  refine wpList_plain hgd fun K hK => ?_
  unfold Oper.wp execOp
  simp only [ho, Sem.run_bind]
  have e : (ps.map fun x => (x.1, a.eval x.2)) = vs := hv
  rw [e, hb w]
  simp only [Result.andThen_ok]
  exact hK _ _ h

abbrev recA : Rc := ⟨1, 3, 9, 5, 0, 7 :: List.replicate 31 0⟩
theorem recA_ok : Ok recA := by decide
theorem recA_in : In recA := ⟨by decide, by unfold octets; decide⟩
theorem recA_lay : (layL recA).getD 0 0 = 1 ∧ (layL recA).getD 1 0 = 3 ∧ (layL recA).getD 9 0 = 9 ∧ (layL recA).getD 17 0 = 5 ∧ (layL recA).getD 25 0 = 7 := by decide +kernel
theorem pg0_right : rightB pg0 = false := by decide +kernel
theorem read_pg0 : readS pg0 = (rc0, 8) := by unfold readS; rw [if_pos pg0_right]
end Go.Proofs.YtgnpohkippegpaaGreat

/-
  A row laid over another from the front. Nothing here speaks of one program.
-/
namespace Go.Proofs.YtgnpohkippegpaaGreat
/-- a row laid over another from the front -/
def mix (S p : List Int) (n : Nat) : List Int := S.take n ++ p.drop n
theorem mix_length {S p : List Int} {n : Nat} (h : S.length = p.length) (hn : n ≤ p.length) : (mix S p n).length = p.length := by simp [mix, h]; omega
theorem mix_set {S p : List Int} {n : Nat} (h : S.length = p.length) (hn : n < p.length) : (mix S p n).set n (S.getD n 0) = mix S p (n + 1) := by
  unfold mix
  have e : (S.take n).length = n := by simp; omega
  rw [List.set_append_right _ _ (by omega), e, Nat.sub_self, List.drop_eq_getElem_cons hn, List.set_cons_zero, List.take_succ_eq_append_getElem (by omega), List.append_assoc]
  simp [List.getD_eq_getElem?_getD, List.getElem?_eq_getElem (show n < S.length by omega)]
theorem mix_all {S p : List Int} {n : Nat} (h : S.length = p.length) (hn : n = p.length) : mix S p n = S := by
  unfold mix
  rw [List.drop_eq_nil_of_le (by omega), List.append_nil, List.take_of_length_le (by omega)]
theorem mix_zero (S p : List Int) : mix S p 0 = p := by simp [mix]
end Go.Proofs.YtgnpohkippegpaaGreat

/-
  Layer 6: the arguments opened; the law's 'sealed'.
-/
namespace Go.Proofs.YtgnpohkippegpaaGreat
open Go.RowKit Word Crc Rec
set_option linter.unusedVariables false

set_option maxRecDepth 100000 in
theorem open_page {H : Type} {enc : TypeId × Value → H} {w : World} {base b0 : Nat} {r : Reach} {sp : Nat → Bool} {held : Bool} {v : Value} {d : DataW H} {ps : List MemPlace}
    (hu : Value.okWide Tryz.prog w r b0 43 v) (h : DataW.Trod enc Tryz.prog w base sp held 43 v d ps) : ∃ p : List Int, v = .agg (bs p).toArray ∧ p.length = 64 ∧ octets p := by
  obtain ⟨cs, rfl, hs⟩ := has_agg (s := .rep 64 1 (.int .u8)) 3 (by kernel_rfl) h hu (.inr ⟨_, _, Tryz.underlying43⟩)
  obtain ⟨ws, h1, rfl, h3⟩ := has_ints hs
  exact ⟨ws, rfl, h1, wf_u8 h3⟩
def sealedP (p : List Int) : List Int := sealed (p.take 60)
theorem sealedP_length {p : List Int} (h : p.length = 64) : (sealedP p).length = 64 := by unfold sealedP; rw [sealed_length]; simp [h]
theorem sealedP_octets {p : List Int} (h : octets p) : octets (sealedP p) := sealed_octets fun z hz => h z (List.mem_of_mem_take hz)
theorem sealedP_mix {p : List Int} (h : p.length = 64) : mix (sealedP p) p 60 = p := by
  unfold mix sealedP
  rw [sealed_take _ 60 (by simp [h]), List.take_append_drop]

/-- a page, and the answer's page beside it -/
def PgSt (w W : World) (p : List Int) : Prop := Box W w.heap.size 43 (bs p) ∧ Box W (w.heap.size + 1) 43 (bs pg0) ∧ Below w.heap.size w W ∧ w.heap.size + 2 ≤ W.heap.size
theorem PgSt.on {w W W' : World} {p : List Int} (h : PgSt w W p) (hb : Below W.heap.size W W') : PgSt w W' p := ⟨h.1.on hb, h.2.1.on hb, bthen h.2.2.1 hb, Nat.le_trans h.2.2.2 hb.size⟩
theorem PgSt.start {w w1 w2 : World} {p : List Int} (x0 : Box w1 w.heap.size 43 (bs p)) (hB1 : Below w.heap.size w w1) (hs1 : w1.heap.size = w.heap.size + 1) (x1 : Box w2 w1.heap.size 43 (bs pg0)) (hB2 : Below w1.heap.size w1 w2) (hs2 : w2.heap.size = w1.heap.size + 1) : PgSt w w2 p := by
  rw [hs1] at x1
  exact ⟨x0.below hB2 (by omega), x1, bthen hB1 hB2, by omega⟩
theorem PgSt.set {w W : World} {p : List Int} (h : PgSt w W p) (n : Nat) (v : Int) : PgSt w (W.setCell ⟨w.heap.size, n, none⟩ (.int .u8 v)) (p.set n v) := by
  refine ⟨?_, h.2.1.same (heap_setCell_other _ _ _ _ (show w.heap.size + 1 ≠ w.heap.size by omega)), h.2.2.1.setCell (Nat.le_refl _) _, by have := h.2.2.2; simpa [World.setCell] using this⟩
  have := h.1.set n (.int .u8 v)
  rwa [← bs_set] at this
theorem PgSt.rd {w W : World} {p : List Int} (h : PgSt w W p) (hp : p.length = 64) : Rd W W.heap.size (some ⟨w.heap.size, 0, none⟩) (bs p) := Rd.own (h.1.own (n := 64) (by rw [bs_length, hp]) (by decide) 0 (Nat.zero_le _))

end Go.Proofs.YtgnpohkippegpaaGreat

/-
  The document's answers for layer 6: low, high, Summed.
-/
namespace Go.Proofs.YtgnpohkippegpaaGreat
open Go.RowKit Word Crc Rec
set_option linter.unusedVariables false

/-- a page in a variable of its own, its block counted -/
def OneSt' (w W : World) (p : List Int) : Prop := Box W w.heap.size 43 (bs p) ∧ Below w.heap.size w W ∧ w.heap.size + 1 ≤ W.heap.size
theorem OneSt'.on {w W W' : World} {p : List Int} (h : OneSt' w W p) (hb : Below W.heap.size W W') : OneSt' w W' p := ⟨h.1.on hb, bthen h.2.1 hb, Nat.le_trans h.2.2 hb.size⟩
theorem OneSt'.grew {w W W' : World} {p : List Int} (h : OneSt' w W p) (hb : Below (w.heap.size + 1) W W') : OneSt' w W' p := ⟨h.1.below hb (by omega), h.2.1.trans (hb.mono (by omega)), Nat.le_trans h.2.2 hb.size⟩

theorem horn_zero (zs : List Int) (at_ n : Nat) : horn zs at_ 0 n = get zs at_ n := by simp [horn, Word.get]
theorem horn_all (zs : List Int) (at_ n : Nat) : horn zs at_ n n = 0 := by simp [horn, val]
theorem horn_up (zs : List Int) (at_ k n : Nat) (hb : octets zs) (hk : k ≤ n) (h : at_ + n ≤ zs.length) : horn zs at_ k n ≤ horn zs at_ 0 n := by
  induction k with
  | zero => exact Int.le_refl _
  | succ k ih =>
    refine Int.le_trans ?_ (ih (by omega))
    rw [horn_step zs at_ k n (by omega) h]
    have h1 := horn_bounds zs at_ (k + 1) n hb
    have h2 := octets_getD hb (at_ + k)
    omega

theorem summed_all (S p : List Int) (hS : S.length = 64) (hp : p.length = 64) (h60 : S.take 60 = p.take 60) (h : ∀ j, 60 ≤ j → j < 64 → S.getD j 0 = p.getD j 0) : S = p := by
  apply List.ext_getElem (by omega)
  intro i h1 h2
  by_cases hi : i < 60
  · have e := congrArg (fun l => l[i]?) h60
    simp only [List.getElem?_take, hi, if_true] at e
    rw [List.getElem?_eq_getElem h1, List.getElem?_eq_getElem h2] at e
    injection e
  · have := h i (by omega) (by omega)
    simpa [List.getD_eq_getElem?_getD, List.getElem?_eq_getElem h1, List.getElem?_eq_getElem h2] using this
set_option maxRecDepth 100000 in
set_option maxHeartbeats 4000000 in
theorem rsummed_any (p : List Int) (w : World) (hl : p.length = 64) (hp : octets p) :
    Calls Tryz.prog 60 #[.agg (bs p).toArray] w fun e w' => e = .returned (.bool (rightB p)) ∧ Below w.heap.size w w' := by
  have HP := Lib.hid (And.intro hl hp)
  have HR := Lib.hid (rightB_eq p hp (by omega))
  rw [hl] at HR
  clear hl hp
  go_enter Tryz.func60, Tryz.ntmps60
  go_wp2_with (first
    | ((with_reducible refine wpList_pg_box (o := ⟨some 1, .box _ _, _, _, _, _⟩) rfl _ rfl p rfl ?_); intro w1 x0 hB1 hs1)
    | fail)
  have HL := Lib.hid (show OneSt' w w1 p from ⟨x0, hB1, by omega⟩)
  clear x0 hB1 hs1
  go_loopw [3, 4] (fun o i wr => ∃ k : Nat, k ≤ 60 ∧ i = .int .i64 k ∧ OneSt' w wr p ∧ wr.ownsRow (w.heap.size + 1) 5 1 o k (bs (p.take k))) (fun _ i _ => 60 - (intOf i).toNat)
  case atStart => exact ⟨0, by omega, rfl, HL.out, World.ownsRow_nil _ _ _ _⟩
  case round =>
    clear HL
    obtain ⟨k, hk, rfl, L, hown⟩ := hrel
    by_cases hlt : k < 60
    · have c0 := (L.1.cell k).trans (bs_get (by rw [HP.out.1]; omega))
      have HT := Lib.hid (show bs (p.take (k + 1)) = bs (p.take k) ++ [.int .u8 (p.getD k 0)] by
        rw [List.take_succ_eq_append_getElem (by rw [HP.out.1]; omega), bs_append]
        simp [bs, List.getD_eq_getElem?_getD, List.getElem?_eq_getElem (show k < p.length by rw [HP.out.1]; omega)])
      have hsz := L.2.2
      have HL := Lib.hid L
      clear L
      generalize p.getD k 0 = x at c0 HT
      go_wp2_with (at_builtin; go_loud (refine wpList_append_one _ rfl _ _ _ rfl (w.heap.size + 1) 5 _ 1 elem8 u3 k _ rfl _ rfl hown rfl (by simp only [maxLen]; omega) (by omega) hsz ?_); intro v1 w4 hown4 hg4)
      go_roundw
      case rel =>
        have hb4 : Below (w.heap.size + 1) wr w4 := (Below.refl _ _).grown hg4 hsz fun g hg => (hown.lt g hg).1
        exact ⟨k + 1, by omega, by go_num, HL.out.grew hb4, by rw [HT.out]; exact hown4⟩
      case measure => simp [intOf]; omega
    · obtain rfl : k = 60 := by omega
      have h60 : (p.take 60).length = 60 := by simp [HP.out.1]
      obtain ⟨A, c, hv⟩ := own_slice hown
      rw [hv] at hown ⊢
      clear hv
      have HL := Lib.hid L
      clear L
      go_wp2_with fail
      refine (rseal_any A 60 c (p.take 60) wr (by decide) h60 (fun z hz => HP.out.2 z (List.mem_of_mem_take hz)) (Rd.own hown)).mono ?_
      rintro e w4 ⟨A', c', rfl, hown4, hb4⟩
      have hown4 : w4.ownsRow wr.heap.size 5 1 (.slice A' 64 c') 64 (bs (sealed (p.take 60))) := hown4
      replace HL := Lib.hid (HL.out.on hb4)
      have HS64 := Lib.hid (show (sealed (p.take 60)).length = 64 by rw [sealed_length, h60])
      have H60 := Lib.hid (sealed_take (p.take 60) 60 h60)
      clear hown hb4 h60
      rw [show (60 : Nat) + 4 = 64 from rfl]
      obtain ⟨g, rfl, hgb, _⟩ := own_at hown4 (by omega)
      have HO := Lib.hid hown4
      clear hown4 hgb
      generalize wr.heap.size = B3 at *
      generalize sealed (p.take 60) = S at *
      go_wp2_with fail
      go_loopw [5] (fun i wr => ∃ n : Nat, 60 ≤ n ∧ n ≤ 64 ∧ i = .int .i64 n ∧ (∀ j, 60 ≤ j → j < n → S.getD j 0 = p.getD j 0) ∧ ∃ q, w4.drewN q = wr) (fun i _ => 64 - (intOf i).toNat)
      case atStart => exact ⟨60, by omega, by omega, rfl, fun j h1 h2 => by omega, 0, rfl⟩
      case round =>
        obtain ⟨n, hn0, hn1, rfl, hsame, q, rfl⟩ := hrel
        have HSame := Lib.hid hsame
        clear hsame
        by_cases hlt : n < 64
        · have c1 := (HO.out.cellAt n (by omega)).trans (bs_get (by rw [HS64.out]; exact hlt))
          have c0 := (HL.out.1.cell n).trans (bs_get (by rw [HP.out.1]; exact hlt))
          by_cases hxy : S.getD n 0 = p.getD n 0
          · have HX := Lib.hid hxy
            rw [hxy] at c1
            clear hxy
            generalize p.getD n 0 = x at c0 c1
            have hq : (x != x) = false := by simp
            go_wp2
            go_quiet (fail)
            go_wp2
            go_roundw
            case rel =>
              refine ⟨n + 1, by omega, by omega, by go_num, fun j h1 h2 => ?_, _, rfl⟩
              by_cases hj : j = n
              · subst hj; exact HX.out
              · exact HSame.out j h1 (by omega)
            case measure => simp [intOf]; omega
          · have HF := Lib.hid (show rightB p = false by
              rw [HR.out, beq_eq_false_iff_ne]
              intro h
              exact hxy (by rw [show S = p from h]))
            have hq : (S.getD n 0 != p.getD n 0) = true := by simp only [bne_iff_ne]; exact hxy
            generalize S.getD n 0 = x at c1 hq
            generalize p.getD n 0 = y at c0 hq
            go_wp2
            go_quiet (fail)
            go_wp2
            go_ret
            exact ⟨ret_bool HF.out, below_draws (below_draws HL.out.2.1 _) _⟩
        · obtain rfl : n = 64 := by omega
          have HF := Lib.hid (show rightB p = true by
            rw [HR.out, beq_iff_eq]
            exact summed_all S p HS64.out HP.out.1 H60.out HSame.out)
          go_wp2
          go_ret
          exact ⟨ret_bool HF.out, below_draws HL.out.2.1 _⟩
end Go.Proofs.YtgnpohkippegpaaGreat

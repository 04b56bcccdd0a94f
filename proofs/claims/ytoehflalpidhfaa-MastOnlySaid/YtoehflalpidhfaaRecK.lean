/-
  The document's answers for layer 6: low, high, Summed.
-/
import Derived.Test.YtoehflalpidhfaaRecG
namespace Go.Proofs.Ytoehflalpidhfaa
open Go.RowKit Word Crc Rec
set_option linter.unusedVariables false

/-- a page in a variable of its own, its block counted -/
def OneSt' (w W : World) (p : List Int) : Prop := Box W w.heap.size 28 (bs p) ∧ Below w.heap.size w W ∧ w.heap.size + 1 ≤ W.heap.size
theorem OneSt'.on {w W W' : World} {p : List Int} (h : OneSt' w W p) (hb : Below W.heap.size W W') : OneSt' w W' p := ⟨h.1.on hb, bthen h.2.1 hb, Nat.le_trans h.2.2 hb.size⟩
theorem OneSt'.grew {w W W' : World} {p : List Int} (h : OneSt' w W p) (hb : Below (w.heap.size + 1) W W') : OneSt' w W' p := ⟨h.1.below hb (by omega), h.2.1.trans (hb.mono (by omega)), Nat.le_trans h.2.2 hb.size⟩

theorem horn_zero (zs : List Int) (at_ n : Nat) : horn zs at_ 0 n = get zs at_ n := by simp [horn, Word.get]
theorem horn_all (zs : List Int) (at_ n : Nat) : horn zs at_ n n = 0 := by simp [horn, val]
theorem horn_up (zs : List Int) (at_ k n : Nat) (hb : octets zs) (hk : k ≤ n) (h : at_ + n ≤ zs.length) : horn zs at_ k n ≤ horn zs at_ 0 n := by
  induction k with
  | zero => exact Int.le_refl _
  | succ k ih =>
    refine Int.le_trans ?_ (ih (by omega))
    rw [horn_step zs at_ k n (by omega) h]
    have h1 := horn_bounds zs at_ (k + 1) n hb
    have h2 := octets_getD hb (at_ + k)
    omega

theorem summed_all (S p : List Int) (hS : S.length = 64) (hp : p.length = 64) (h60 : S.take 60 = p.take 60) (h : ∀ j, 60 ≤ j → j < 64 → S.getD j 0 = p.getD j 0) : S = p := by
  apply List.ext_getElem (by omega)
  intro i h1 h2
  by_cases hi : i < 60
  · have e := congrArg (fun l => l[i]?) h60
    simp only [List.getElem?_take, hi, if_true] at e
    rw [List.getElem?_eq_getElem h1, List.getElem?_eq_getElem h2] at e
    injection e
  · have := h i (by omega) (by omega)
    simpa [List.getD_eq_getElem?_getD, List.getElem?_eq_getElem h1, List.getElem?_eq_getElem h2] using this
set_option maxRecDepth 100000 in
set_option maxHeartbeats 4000000 in
theorem rsummed_any (p : List Int) (w : World) (hl : p.length = 64) (hp : octets p) :
    Calls Try.prog 36 #[.agg (bs p).toArray] w fun e w' => e = .returned (.bool (rightB p)) ∧ Below w.heap.size w w' := by
  have HP := Lib.hid (And.intro hl hp)
  have HR := Lib.hid (rightB_eq p hp (by omega))
  rw [hl] at HR
  clear hl hp
  go_enter Try.func36, Try.ntmps36
  go_wp2_with (first
    | ((with_reducible refine wpList_pg_box (o := ⟨some 1, .box _ _, _, _, _, _⟩) rfl _ rfl p rfl ?_); intro w1 x0 hB1 hs1)
    | fail)
  have HL := Lib.hid (show OneSt' w w1 p from ⟨x0, hB1, by omega⟩)
  clear x0 hB1 hs1
  go_loopw [3, 4] (fun o i wr => ∃ k : Nat, k ≤ 60 ∧ i = .int .i64 k ∧ OneSt' w wr p ∧ wr.ownsRow (w.heap.size + 1) 5 1 o k (bs (p.take k))) (fun _ i _ => 60 - (intOf i).toNat)
  case atStart => exact ⟨0, by omega, rfl, HL.out, World.ownsRow_nil _ _ _ _⟩
  case round =>
    clear HL
    obtain ⟨k, hk, rfl, L, hown⟩ := hrel
    by_cases hlt : k < 60
    · have c0 := (L.1.cell k).trans (bs_get (by rw [HP.out.1]; omega))
      have HT := Lib.hid (show bs (p.take (k + 1)) = bs (p.take k) ++ [.int .u8 (p.getD k 0)] by
        rw [List.take_succ_eq_append_getElem (by rw [HP.out.1]; omega), bs_append]
        simp [bs, List.getD_eq_getElem?_getD, List.getElem?_eq_getElem (show k < p.length by rw [HP.out.1]; omega)])
      have hsz := L.2.2
      have HL := Lib.hid L
      clear L
      generalize p.getD k 0 = x at c0 HT
      go_wp2_with (at_builtin; go_loud (refine wpList_append_one _ rfl _ _ _ rfl (w.heap.size + 1) 5 _ 1 elem8 u3 k _ rfl _ rfl hown rfl (by simp only [maxLen]; omega) (by omega) hsz ?_); intro v1 w4 hown4 hg4)
      go_roundw
      case rel =>
        have hb4 : Below (w.heap.size + 1) wr w4 := (Below.refl _ _).grown hg4 hsz fun g hg => (hown.lt g hg).1
        exact ⟨k + 1, by omega, by go_num, HL.out.grew hb4, by rw [HT.out]; exact hown4⟩
      case measure => simp [intOf]; omega
    · obtain rfl : k = 60 := by omega
      have h60 : (p.take 60).length = 60 := by simp [HP.out.1]
      obtain ⟨A, c, hv⟩ := own_slice hown
      rw [hv] at hown ⊢
      clear hv
      have HL := Lib.hid L
      clear L
      go_wp2_with fail
      refine (rseal_any A 60 c (p.take 60) wr (by decide) h60 (fun z hz => HP.out.2 z (List.mem_of_mem_take hz)) (Rd.own hown)).mono ?_
      rintro e w4 ⟨A', c', rfl, hown4, hb4⟩
      have hown4 : w4.ownsRow wr.heap.size 5 1 (.slice A' 64 c') 64 (bs (sealed (p.take 60))) := hown4
      replace HL := Lib.hid (HL.out.on hb4)
      have HS64 := Lib.hid (show (sealed (p.take 60)).length = 64 by rw [sealed_length, h60])
      have H60 := Lib.hid (sealed_take (p.take 60) 60 h60)
      clear hown hb4 h60
      rw [show (60 : Nat) + 4 = 64 from rfl]
      obtain ⟨g, rfl, hgb, _⟩ := own_at hown4 (by omega)
      have HO := Lib.hid hown4
      clear hown4 hgb
      generalize wr.heap.size = B3 at *
      generalize sealed (p.take 60) = S at *
      go_wp2_with fail
      go_loopw [5] (fun i wr => ∃ n : Nat, 60 ≤ n ∧ n ≤ 64 ∧ i = .int .i64 n ∧ (∀ j, 60 ≤ j → j < n → S.getD j 0 = p.getD j 0) ∧ ∃ q, w4.drewN q = wr) (fun i _ => 64 - (intOf i).toNat)
      case atStart => exact ⟨60, by omega, by omega, rfl, fun j h1 h2 => by omega, 0, rfl⟩
      case round =>
        obtain ⟨n, hn0, hn1, rfl, hsame, q, rfl⟩ := hrel
        have HSame := Lib.hid hsame
        clear hsame
        by_cases hlt : n < 64
        · have c1 := (HO.out.cellAt n (by omega)).trans (bs_get (by rw [HS64.out]; exact hlt))
          have c0 := (HL.out.1.cell n).trans (bs_get (by rw [HP.out.1]; exact hlt))
          by_cases hxy : S.getD n 0 = p.getD n 0
          · have HX := Lib.hid hxy
            rw [hxy] at c1
            clear hxy
            generalize p.getD n 0 = x at c0 c1
            have hq : (x != x) = false := by simp
            go_wp2
            go_quiet (fail)
            go_wp2
            go_roundw
            case rel =>
              refine ⟨n + 1, by omega, by omega, by go_num, fun j h1 h2 => ?_, _, rfl⟩
              by_cases hj : j = n
              · subst hj; exact HX.out
              · exact HSame.out j h1 (by omega)
            case measure => simp [intOf]; omega
          · have HF := Lib.hid (show rightB p = false by
              rw [HR.out, beq_eq_false_iff_ne]
              intro h
              exact hxy (by rw [show S = p from h]))
            have hq : (S.getD n 0 != p.getD n 0) = true := by simp only [bne_iff_ne]; exact hxy
            generalize S.getD n 0 = x at c1 hq
            generalize p.getD n 0 = y at c0 hq
            go_wp2
            go_quiet (fail)
            go_wp2
            go_ret
            exact ⟨ret_bool HF.out, below_draws (below_draws HL.out.2.1 _) _⟩
        · obtain rfl : n = 64 := by omega
          have HF := Lib.hid (show rightB p = true by
            rw [HR.out, beq_iff_eq]
            exact summed_all S p HS64.out HP.out.1 H60.out HSame.out)
          go_wp2
          go_ret
          exact ⟨ret_bool HF.out, below_draws HL.out.2.1 _⟩
end Go.Proofs.Ytoehflalpidhfaa

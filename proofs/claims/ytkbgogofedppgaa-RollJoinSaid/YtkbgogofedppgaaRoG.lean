/-
  The document's answer for layer 15: Do.
-/
import Derived.Test.YtkbgogofedppgaaRoE
namespace Go.Proofs.Ytkbgogofedppgaa
open Go.RowKit Word Rec Scan Roll Leaf
set_option linter.unusedVariables false

theorem is_snoc (zs : List Int) (x : Int) : is (zs ++ [x]) = is zs ++ [.int .i64 x] := by simp [is]
theorem lastS_take {b : Nat} {p : Int} {l : List Gp} {k : Nat} {g : Gp} (h : l[k]? = some g) : lastS b p (l.take (k + 1)) = lastG b (lastS b p (l.take k)) g := by
  unfold lastS
  exact fold_take h
theorem doS_snoc_at {P : List Int} {l : List Gp} {k : Nat} {p : Int} (h : P[k]? = some p) : (doS P l).take (k + 1) = (doS P l).take k ++ [lastS k p l] := by
  have h1 := doS_at l h
  obtain ⟨hk, h2⟩ := List.getElem?_eq_some_iff.1 h1
  rw [List.take_succ_eq_append_getElem hk, h2]
set_option maxRecDepth 100000 in
set_option maxHeartbeats 4000000 in
theorem rdo_any (A : Option Addr) (len cap : Nat) (ps : List Int) (G : Option Addr) (gn gcap : Nat) (L : List Gv) (w : World) (hl : ps.length = len) (hm : len ≤ 1000) (hgl : L.length = gn) (hgm : gn ≤ maxLen) (hcm : ∀ x ∈ L, x.g.ch.length ≤ maxLen)
    (hr : Rd w w.heap.size A (is ps)) (hg : GRd w w.heap.size G L) :
    Calls Try.prog 11 #[.slice A len cap, .slice G gn gcap] w fun e w' => ∃ V, e = .returned V ∧ w'.ownsRow w.heap.size 3 1 V len (is (doS ps (L.map Gv.g))) ∧ Below w.heap.size w w' := by
  have HL := Lib.hid (And.intro hl hr)
  have HG := Lib.hid (And.intro hgl (And.intro hcm hg))
  unfold maxLen at hgm
  clear hl hgl hcm hr hg
  go_enter Try.func11, Try.ntmps11
  go_wp2
  go_loopw [5, 6] (fun o i wr => ∃ k : Nat, k ≤ len ∧ i = .int .i64 k ∧ wr.ownsRow w.heap.size 3 1 o k (is ((doS ps (L.map Gv.g)).take k)) ∧ Below w.heap.size w wr) (fun _ i _ => len - (intOf i).toNat)
  case atStart => exact ⟨0, by omega, rfl, by simpa [is] using World.ownsRow_nil _ _ _ _, Below.refl _ _⟩
  case round =>
    obtain ⟨k, hk, rfl, hown, hbl⟩ := hrel
    have HO := Lib.hid (And.intro hown hbl)
    clear hown hbl
    by_cases hlt : k < len
    · have hkl : k < ps.length := by rw [HL.out.1]; exact hlt
      obtain ⟨p0, hp⟩ : ∃ p, ps[k]? = some p := ⟨_, List.getElem?_eq_getElem hkl⟩
      obtain ⟨ad, rfl, hadb, a0⟩ := (HL.out.2.below HO.out.2).at (k := k) (u := .int .i64 p0) (by rw [is, List.getElem?_map, hp]; rfl)
      have HT := Lib.hid (doS_snoc_at (l := L.map Gv.g) hp)
      have hki : (k : Int) < (len : Int) := by omega
      have HGr : Hid (GRd wr w.heap.size G L) := Lib.hid (HG.out.2.2.below HO.out.2)
      clear hp hkl hadb
      go_wp2
      go_loop [7, 8] (fun pv i => ∃ (j : Nat) (p : Int), j ≤ gn ∧ i = .int .i64 j ∧ pv = .int .i64 p ∧ p = lastS k p0 ((L.map Gv.g).take j)) (fun _ i => gn - (intOf i).toNat)
      case atStart => exact ⟨0, p0, by omega, rfl, rfl, rfl⟩
      case round =>
        obtain ⟨j, p, hj, rfl, rfl, hp⟩ := hrel
        have HP := Lib.hid hp
        clear hp
        by_cases hjl : j < gn
        · have hjl2 : j < L.length := by rw [HG.out.1]; exact hjl
          obtain ⟨x, hx⟩ : ∃ x, L[j]? = some x := ⟨_, List.getElem?_eq_getElem hjl2⟩
          have hxm := List.mem_of_getElem? hx
          obtain ⟨ag, rfl, hagb, c0, c1, c2⟩ := gv_at HGr.out.1 hx
          have HX := Lib.hid (HG.out.2.1 x hxm)
          have HXR := Lib.hid (HGr.out.2 x hxm)
          have HD := Lib.hid (lastS_take (b := k) (p := p0) (map_g_at hx))
          obtain ⟨⟨own, sq, ch⟩, xA, xc⟩ := x
          simp only [Gv.v] at c0 c1 c2
          have hji : (j : Int) < (gn : Int) := by omega
          have hcx : ch.length ≤ 9223372036854775807 := HX.out
          generalize hcl : ch.length = cn at *
          have HCL := Lib.hid hcl
          clear hx hxm hjl2 hcl hagb
          go_wp2
          go_loop [7, 9] (fun pv i => ∃ (y : Nat) (q : Int), y ≤ cn ∧ i = .int .i64 y ∧ pv = .int .i64 q ∧ q = (ch.take y).foldl (lastC k) p) (fun _ i => cn - (intOf i).toNat)
          case atStart => exact ⟨0, p, by omega, rfl, rfl, rfl⟩
          case round =>
            obtain ⟨y, q, hy, rfl, rfl, hq⟩ := hrel
            have HQ := Lib.hid hq
            clear hq
            by_cases hyl : y < cn
            · have hyl2 : y < ch.length := by rw [HCL.out]; exact hyl
              obtain ⟨c, hc⟩ : ∃ c, ch[y]? = some c := ⟨_, List.getElem?_eq_getElem hyl2⟩
              obtain ⟨ac, rfl, hb2, d0, d1⟩ := ch_at HXR.out hc
              have HF := Lib.hid (fold_take (f := lastC k) (a := p) hc)
              obtain ⟨cb, cp⟩ := c
              simp only at d0 d1
              have hyi : (y : Int) < (cn : Int) := by omega
              clear hc hyl2 hb2
              by_cases hcb : cb = k
              · have hbb : (cb == (k : Int)) = true := by simp [hcb]
                have HE := Lib.hid (show cp = (ch.take (y + 1)).foldl (lastC k) p by rw [HF.out]; unfold lastC; exact (if_pos hcb).symm)
                clear hcb HF
                go_wp2
                go_round
                case rel => exact ⟨y + 1, cp, by omega, by go_num, rfl, HE.out⟩
                case measure => first | (simp [intOf]; done) | (simp [intOf]; omega)
              · have hbb : (cb == (k : Int)) = false := by simp [hcb]
                have HE := Lib.hid (show q = (ch.take (y + 1)).foldl (lastC k) p by rw [HF.out, ← HQ.out]; unfold lastC; exact (if_neg hcb).symm)
                clear hcb HF
                go_wp2
                go_round
                case rel => exact ⟨y + 1, q, by omega, by go_num, rfl, HE.out⟩
                case measure => first | (simp [intOf]; done) | (simp [intOf]; omega)
            · obtain rfl : cn = y := by omega
              have HE := Lib.hid (show q = lastS k p0 ((L.map Gv.g).take (j + 1)) by
                rw [HD.out, ← HP.out, HQ.out, List.take_of_length_le (by rw [HCL.out]; exact Nat.le_refl _)]
                rfl)
              go_wp2
              go_round
              case rel => exact ⟨j + 1, q, by omega, by go_num, rfl, HE.out⟩
              case measure => first | (simp [intOf]; done) | (simp [intOf]; omega)
        · obtain rfl : gn = j := by omega
          have HE := Lib.hid (show is ((doS ps (L.map Gv.g)).take (k + 1)) = is ((doS ps (L.map Gv.g)).take k) ++ [.int .i64 p] by
            have h := HP.out
            rw [List.take_of_length_le (l := L.map Gv.g) (by rw [List.length_map, HG.out.1]; exact Nat.le_refl _)] at h
            rw [HT.out, is_snoc, h])
          go_wp2_with (first
            | (at_builtin; go_loud (refine wpList_append_one _ rfl _ _ _ rfl w.heap.size 3 _ 8 elemJ u5 k _ rfl _ rfl HO.out.1 rfl (by simp only [maxLen]; omega) (by omega) HO.out.2.size ?_); go_loud (intro v1 w1 hown1 hg1; have H1 := Lib.hid (And.intro hown1 (HO.out.2.grown hg1 HO.out.2.size fun g hg => (HO.out.1.lt g hg).1)); clear hown1 hg1))
            | fail)
          go_roundw
          case rel => exact ⟨k + 1, by omega, by go_num, by rw [HE.out]; exact H1.out.1, H1.out.2⟩
          case measure => first | (simp [intOf]; done) | (simp [intOf]; omega)
    · obtain rfl : len = k := by omega
      have HE := Lib.hid (show (doS ps (L.map Gv.g)).take len = doS ps (L.map Gv.g) from List.take_of_length_le (by rw [doS_length, HL.out.1]; exact Nat.le_refl _))
      go_wp2
      go_ret
      exact ⟨_, rfl, by rw [HE.out] at HO; exact HO.out.1, HO.out.2⟩
end Go.Proofs.Ytkbgogofedppgaa

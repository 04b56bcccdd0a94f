/-
  The document's answer for layer 15: Same.
-/
import Derived.Test.YtkbgogofedppgaaRoB
import Derived.BigQuiet
namespace Go.Proofs.Ytkbgogofedppgaa
open Go.RowKit Word Rec Scan Roll
set_option linter.unusedVariables false

theorem take_at {α : Type} {l : List α} {k : Nat} {x : α} (h : l[k]? = some x) : l.take (k + 1) = l.take k ++ [x] := by
  obtain ⟨hk, rfl⟩ := List.getElem?_eq_some_iff.1 h
  exact List.take_succ_eq_append_getElem hk
theorem hmap_at {L : List Gv} {k : Nat} {x : Gv} (h : L[k]? = some x) : (L.map Gv.g)[k]? = some x.g := by rw [List.getElem?_map, h]; rfl
theorem lists_ne {α : Type} {xs ys : List α} {k : Nat} {a b : α} (ha : xs[k]? = some a) (hb : ys[k]? = some b) (h : a ≠ b) : ¬ xs = ys := by
  rintro rfl
  rw [ha] at hb
  injection hb with hb
  exact h hb
set_option maxRecDepth 100000 in
set_option maxHeartbeats 4000000 in
theorem rgsame_any (A A' : Option Addr) (len cap len' cap' : Nat) (w : World) (hl : len ≤ 100000) (hl' : len' ≤ 100000) (xs ys : List Gv) (hx : xs.length = len) (hy : ys.length = len') (cx : ∀ x ∈ xs, x.g.ch.length ≤ 100000) (cy : ∀ x ∈ ys, x.g.ch.length ≤ 100000)
    (B : Nat) (hr : GRd w B A xs) (hr' : GRd w B A' ys) :
    Calls Try.prog 14 #[.slice A len cap, .slice A' len' cap'] w fun e w' => (∃ b, e = .returned (.bool b) ∧ (b = true ↔ xs.map Gv.g = ys.map Gv.g)) ∧ ∃ n, w.drewN n = w' := by
  have HX := Lib.hid hx
  have HY := Lib.hid hy
  have HR := Lib.hid (And.intro hr hr')
  have HI := Lib.hid (And.intro cx cy)
  have hgd := guard_ch
  have hqa := neq_ch
  clear hx hy hr hr' cx cy
  by_cases hne : len = len'
  · subst hne
    go_enter Try.func14, Try.ntmps14
    go_wp2
    go_loopw [5] (fun i wr => ∃ k : Nat, k ≤ len ∧ i = .int .i64 k ∧ (xs.map Gv.g).take k = (ys.map Gv.g).take k ∧ ∃ n, w.drewN n = wr) (fun i _ => len - (intOf i).toNat)
    case atStart => exact ⟨0, by omega, rfl, rfl, 0, rfl⟩
    case round =>
      obtain ⟨k, hk, rfl, HT, q, rfl⟩ := hrel
      have HT := Lib.hid HT
      by_cases hlt : k < len
      · obtain ⟨x, hxk⟩ : ∃ a, xs[k]? = some a := ⟨_, List.getElem?_eq_getElem (by rw [HX.out]; omega)⟩
        obtain ⟨y, hyk⟩ : ∃ a, ys[k]? = some a := ⟨_, List.getElem?_eq_getElem (by rw [HY.out]; omega)⟩
        obtain ⟨ad, rfl, _, a0, a1, a2⟩ := gv_at HR.out.1.1 hxk
        obtain ⟨ad', rfl, _, b0, b1, b2⟩ := gv_at HR.out.2.1 hyk
        have HC := Lib.hid (And.intro (HR.out.1.2 x (List.mem_of_getElem? hxk)) (HR.out.2.2 y (List.mem_of_getElem? hyk)))
        have hcx := HI.out.1 x (List.mem_of_getElem? hxk)
        have hcy := HI.out.2 y (List.mem_of_getElem? hyk)
        have HE := Lib.hid (And.intro (hmap_at hxk) (hmap_at hyk))
        obtain ⟨⟨o, s, ch⟩, xA, xc⟩ := x
        obtain ⟨⟨o', s', ch'⟩, yA, yc⟩ := y
        simp only [Gv.v] at a0 a1 a2 b0 b1 b2 hcx hcy
        have hki : (k : Int) < (len : Int) := by omega
        generalize hcl : ch.length = cn at *
        generalize hcl' : ch'.length = cn' at *
        have HCL := Lib.hid (And.intro hcl hcl')
        clear hxk hyk hcl hcl'
        by_cases ho : o = o'
        · subst ho
          have q1 : (!(o == o)) = false := by simp
          by_cases hs : s = s'
          · subst hs
            have q2 : (s != s) = false := by simp
            by_cases hc : cn = cn'
            · subst hc
              have q3 : ((cn : Int) != (cn : Int)) = false := by simp
              go_wp2
              go_quiet (fail)
              go_wp2
              go_loopw [6] (fun j w2 => ∃ y : Nat, y ≤ cn ∧ j = .int .i64 y ∧ ch.take y = ch'.take y ∧ ∃ n, w.drewN n = w2) (fun j _ => cn - (intOf j).toNat)
              case atStart => exact ⟨0, by omega, rfl, rfl, _, (World.drewN_drewN ..).symm⟩
              case round =>
                obtain ⟨y, hy, rfl, hTy, q2, rfl⟩ := hrel
                have HTy := Lib.hid hTy
                clear hTy
                by_cases hyl : y < cn
                · obtain ⟨c, hcy⟩ : ∃ a, ch[y]? = some a := ⟨_, List.getElem?_eq_getElem (by rw [HCL.out.1]; omega)⟩
                  obtain ⟨c', hcy'⟩ : ∃ a, ch'[y]? = some a := ⟨_, List.getElem?_eq_getElem (by rw [HCL.out.2]; omega)⟩
                  obtain ⟨ac, rfl, _, d0, d1⟩ := ch_at HC.out.1 hcy
                  obtain ⟨ac', rfl, _, e0, e1⟩ := ch_at HC.out.2 hcy'
                  have HEc := Lib.hid (And.intro hcy hcy')
                  obtain ⟨cb, cp⟩ := c
                  obtain ⟨cb', cp'⟩ := c'
                  simp only at d0 d1 e0 e1
                  have hyi : (y : Int) < (cn : Int) := by omega
                  clear hcy hcy'
                  cases hcc : (!(cb == cb' && cp == cp'))
                  · have hab : cb = cb' ∧ cp = cp' := by simpa using hcc
                    obtain ⟨rfl, rfl⟩ := hab
                    have HTn := Lib.hid (show ch.take (y + 1) = ch'.take (y + 1) by rw [take_at HEc.out.1, take_at HEc.out.2, HTy.out])
                    go_wp2
                    go_quiet (fail)
                    go_wp2
                    go_roundw
                    case rel => exact ⟨y + 1, by omega, by go_num, HTn.out, _, rfl⟩
                    case measure => first | (simp [intOf]; done) | (simp [intOf]; omega)
                  · have HXY := Lib.hid (lists_ne HE.out.1 HE.out.2 (fun h => by
                      injection h with _ _ h
                      refine lists_ne HEc.out.1 HEc.out.2 (fun h2 => ?_) h
                      injection h2 with h2 h3
                      subst h2 h3
                      simp at hcc))
                    go_wp2
                    go_quiet (fail)
                    go_wp2
                    go_ret
                    exact ⟨⟨_, rfl, by constructor <;> intro h; cases h; exact absurd h HXY.out⟩, _, (World.drewN_drewN ..).symm⟩
                · obtain rfl : cn = y := by omega
                  have HTn := Lib.hid (show (xs.map Gv.g).take (k + 1) = (ys.map Gv.g).take (k + 1) by
                    have h := HTy.out
                    rw [List.take_of_length_le (by rw [HCL.out.1]; exact Nat.le_refl _), List.take_of_length_le (by rw [HCL.out.2]; exact Nat.le_refl _)] at h
                    rw [take_at HE.out.1, take_at HE.out.2, HT.out, h])
                  go_wp2
                  go_roundw
                  case rel => exact ⟨k + 1, by omega, by go_num, HTn.out, _, rfl⟩
                  case measure => first | (simp [intOf]; done) | (simp [intOf]; omega)
            · have q3 : ((cn : Int) != (cn' : Int)) = true := by rw [bne_iff_ne]; omega
              have HXY := Lib.hid (lists_ne HE.out.1 HE.out.2 (fun h => hc (by rw [← HCL.out.1, ← HCL.out.2]; injection h with _ _ h; rw [h])))
              go_wp2
              go_quiet (fail)
              go_wp2
              go_ret
              exact ⟨⟨_, rfl, by constructor <;> intro h; cases h; exact absurd h HXY.out⟩, _, (World.drewN_drewN ..).symm⟩
          · have q2 : (s != s') = true := by simp [hs]
            have HXY := Lib.hid (lists_ne HE.out.1 HE.out.2 (fun h => hs (by injection h)))
            go_wp2
            go_quiet (fail)
            go_wp2
            go_ret
            exact ⟨⟨_, rfl, by constructor <;> intro h; cases h; exact absurd h HXY.out⟩, _, (World.drewN_drewN ..).symm⟩
        · have q1 : (!(o == o')) = true := by simp [ho]
          have HXY := Lib.hid (lists_ne HE.out.1 HE.out.2 (fun h => ho (by injection h)))
          go_wp2
          go_quiet (fail)
          go_wp2
          go_ret
          exact ⟨⟨_, rfl, by constructor <;> intro h; cases h; exact absurd h HXY.out⟩, _, (World.drewN_drewN ..).symm⟩
      · obtain rfl : len = k := by omega
        have HXY : Hid (xs.map Gv.g = ys.map Gv.g) := Lib.hid (by
          have h := HT.out
          rwa [List.take_of_length_le (by rw [List.length_map, HX.out]; omega), List.take_of_length_le (by rw [List.length_map, HY.out]; omega)] at h)
        go_wp2
        go_ret
        exact ⟨⟨_, rfl, fun _ => HXY.out, fun _ => rfl⟩, _, rfl⟩
  · have HXY : Hid (¬ xs.map Gv.g = ys.map Gv.g) := Lib.hid (by
      intro h
      have h1 := HX.out
      have h2 := HY.out
      have h3 := congrArg List.length h
      rw [List.length_map, List.length_map] at h3
      omega)
    have hq : ((len : Int) != (len' : Int)) = true := by rw [bne_iff_ne]; omega
    go_enter Try.func14, Try.ntmps14
    go_wp2
    go_ret
    exact ⟨⟨_, rfl, by constructor <;> intro h; cases h; exact absurd h HXY.out⟩, 0, rfl⟩
end Go.Proofs.Ytkbgogofedppgaa

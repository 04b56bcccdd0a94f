/-
  The document's answer for layer 17: in, Few, Last, Read; logs and acts in memory.
-/
import Derived.Test.YtjjomfpkdbfhdaaSnF
import Derived.Test.YtjjomfpkdbfhdaaSnG
namespace Go.Proofs.Ytjjomfpkdbfhdaa
open Go.RowKit Word Snap
set_option linter.unusedVariables false

theorem build_old0 (w : World) : (Instr.build 38 #[]).run Try.prog w = .ok (.agg (ocs ol0).toArray) w := by
  unfold Instr.build
  simp only [Sem.run_bind, zero_old w, Result.andThen, run_underlying Try.underlying38]
  have h3 : ∀ w : World, (sizeOf 3).run Try.prog w = .ok 1 w := by intro w; go_simp
  have h4 : ∀ w : World, (sizeOf 4).run Try.prog w = .ok 1 w := by intro w; go_simp
  have h5 : ∀ w : World, (sizeOf 36).run Try.prog w = .ok 32 w := by intro w; go_simp
  simp only [List.mapM_toArray, List.mapM_cons, List.mapM_nil, Sem.run_bind, Sem.run_pure, h3, h4, h5, Result.andThen, Sem.run_map]
  rfl
theorem inn_take_no {l : List Ol} {k : Nat} {o : Ol} {b : Int} (h : l[k]? = some o) (hn : inn (l.take k) b = none) (hb : ¬ o.b = b) : inn (l.take (k + 1)) b = none := by
  rw [inn_take h, hn, if_neg hb]
  rfl
theorem inn_hit {l : List Ol} {k : Nat} {o : Ol} {b : Int} (h : l[k]? = some o) (hn : inn (l.take k) b = none) (hb : o.b = b) : inn l b = some o := by
  have h1 : inn (l.take (k + 1)) b = some o := by
    rw [inn_take h, hn, if_pos hb]
    rfl
  have h2 : l = l.take (k + 1) ++ l.drop (k + 1) := (List.take_append_drop _ _).symm
  rw [h2]
  unfold inn at h1 ⊢
  rw [List.find?_append, h1]
  rfl
/-- what 'in' answers -/
abbrev inv_ (l : List Ol) (b : Int) : Value := .tuple #[.agg (ocs ((inn l b).getD ol0)).toArray, .bool (inn l b).isSome]
set_option maxRecDepth 100000 in
set_option maxHeartbeats 4000000 in
theorem in_any (A : Option Addr) (len cap : Nat) (l : List Ol) (z : Int) (w : World) (hl : l.length = len) (hlm : len ≤ 100000) (hin : ∀ o ∈ l, OIn o) (hr : Rd w w.heap.size A (ols l)) :
    Calls Try.prog 22 #[.slice A len cap, .int .i64 z] w fun e w' => e = .returned (inv_ l z) ∧ Below w.heap.size w w' := by
  obtain ⟨m3, hm3, hsz⟩ := big_size (P := Try.prog) (t := 38) (s := 34) (by kernel_rfl)
  have hm30 : ¬ m3 = 0 := by omega
  have HM := Lib.hid hm3
  have HL := Lib.hid (And.intro hl (And.intro hin hr))
  clear hm3 hl hin hr
  go_enter Try.func22, Try.ntmps22
  go_wp2_with (first
    | ((with_reducible refine wpList_ol_alloc (o := ⟨some 4, .alloc _, _, _, _, _⟩) rfl rfl ?_); intro w1 x1 hB1 hs1; clear hs1; have H1 := Lib.hid (And.intro x1 hB1); clear x1 hB1)
    | fail)
  go_loopw [6] (fun i wr => ∃ k : Nat, k ≤ len ∧ i = .int .i64 k ∧ wr = w1 ∧ inn (l.take k) z = none) (fun i _ => len - (intOf i).toNat)
  case atStart => exact ⟨0, by omega, rfl, rfl, rfl⟩
  case round =>
    obtain ⟨k, hk, rfl, rfl, hno⟩ := hrel
    by_cases hlt : k < len
    · have hki : (k : Int) < (len : Int) := by omega
      have hkl : k < l.length := by rw [HL.out.1]; exact hlt
      have hlk : l[k]? = some (l[k]'hkl) := List.getElem?_eq_getElem hkl
      have hrd := HL.out.2.2.below H1.out.2
      obtain ⟨ad, rfl, hld, hadb⟩ := ol_load (m := m3) hrd HL.out.2.1 hlk HM.out
      obtain ⟨ad', e', _, hcb⟩ := ol_b (m := m3) hrd HL.out.2.1 hlk HM.out
      obtain rfl : ad = ad' := by injection e'
      have HO := Lib.hid (HL.out.2.1 _ (List.getElem_mem hkl))
      generalize l[k]'hkl = o at *
      by_cases hb : o.b = z
      · have HE := Lib.hid (inn_hit hlk hno hb)
        have hbb : (o.b == z) = true := by simp [hb]
        clear hlk hkl hrd hadb e' hno hb
        go_wp2_with (first
          | ((with_reducible refine wpList_ol_store (o := ⟨none, .store _ (.tmp 4) _, _, _, _, _⟩) rfl _ _ rfl w.heap.size o ol0 HO.out ol0_in rfl rfl H1.out.1 ?_); go_loud (intro w5 x5 hg5 _))
          | fail)
        have hldF := x5.olAll HO.out HM.out
        have KB : Below w.heap.size w w5 := below_stored H1.out.2 hg5 H1.out.2.size (Nat.le_refl _)
        exact bodyPost_ret (v := .tuple #[.agg (ocs o).toArray, .bool true]) (by simp [results, Try.results22, go_sem, hsz, hldF]) rfl ⟨by rw [inv_, HE.out]; rfl, KB⟩
      · have HE := Lib.hid (inn_take_no hlk hno hb)
        have hbb : (o.b == z) = false := by simp [hb]
        clear hlk hkl hrd hadb e' hno hb hld
        go_wp2
        go_roundw
        case rel => exact ⟨k + 1, by omega, by go_num, trivial, HE.out⟩
        case measure => first | (simp [intOf]; done) | (simp [intOf]; omega)
    · obtain rfl : len = k := by omega
      have HE := Lib.hid (show inn l z = none by rwa [List.take_of_length_le (by rw [HL.out.1]; exact Nat.le_refl _)] at hno)
      clear hno
      go_wp2_with (first
        | ((with_reducible refine wpList_build_zero _ (o := ⟨some 24, .build _ _, _, _, _, _⟩) rfl _ rfl (ocs ol0) build_old0 ?_))
        | ((with_reducible refine wpList_ol_store (o := ⟨none, .store _ (.tmp 4) _, _, _, _, _⟩) rfl _ _ rfl w.heap.size ol0 ol0 ol0_in ol0_in rfl rfl H1.out.1 ?_); go_loud (intro w5 x5 hg5 _))
        | fail)
      have hldF := x5.olAll ol0_in HM.out
      have KB : Below w.heap.size w w5 := below_stored H1.out.2 hg5 H1.out.2.size (Nat.le_refl _)
      exact bodyPost_ret (v := .tuple #[.agg (ocs ol0).toArray, .bool false]) (by simp [results, Try.results22, go_sem, hsz, hldF]) rfl ⟨by rw [inv_, HE.out]; rfl, KB⟩

/-- a commit's list, and where it lies -/
structure Ov where
  olds : List Ol
  A : Option Addr
  cap : Nat
abbrev Ov.v (x : Ov) : Value := .slice x.A x.olds.length x.cap
def ovs (L : List Ov) : List Value := L.map Ov.v
/-- a list that can be read -/
structure OvIn (w : World) (B : Nat) (x : Ov) : Prop where
  rd : Rd w B x.A (ols x.olds)
  ins : ∀ o ∈ x.olds, OIn o
  few : x.olds.length ≤ 200
  room : x.olds.length ≤ x.cap
structure LRd (w : World) (B : Nat) (A : Option Addr) (L : List Ov) : Prop where
  row : Rd w B A (ovs L)
  each : ∀ x ∈ L, OvIn w B x
section
variable {w w' : World} {B B' : Nat} {A : Option Addr} {L : List Ov} {x : Ov} {k : Nat}
theorem OvIn.below (h : OvIn w B x) (hb : Below B w w') : OvIn w' B x := ⟨h.rd.below hb, h.ins, h.few, h.room⟩
theorem OvIn.more (h : OvIn w B x) (hB : B ≤ B') : OvIn w B' x := ⟨h.rd.more hB, h.ins, h.few, h.room⟩
theorem LRd.below (h : LRd w B A L) (hb : Below B w w') : LRd w' B A L := ⟨h.row.below hb, fun x hx => (h.each x hx).below hb⟩
theorem LRd.more (h : LRd w B A L) (hB : B ≤ B') : LRd w B' A L := ⟨h.row.more hB, fun x hx => (h.each x hx).more hB⟩
theorem LRd.on (h : LRd w w.heap.size A L) (hb : Below w.heap.size w w') : LRd w' w'.heap.size A L := (h.below hb).more hb.size
theorem LRd.at (h : LRd w B A L) (hk : L[k]? = some x) : ∃ ad, A = some ad ∧ ad.block < B ∧ w.cell? (ad.add k) = some x.v := by
  exact h.row.at (by unfold ovs; rw [List.getElem?_map, hk]; rfl)
end
def Ov.all (L : List Ov) : List (List Ol) := L.map Ov.olds
theorem all_at {L : List Ov} {k : Nat} {x : Ov} (h : L[k]? = some x) : (Ov.all L).getD k [] = x.olds := by
  unfold Ov.all
  rw [List.getD, List.getElem?_map, h]
  rfl
theorem all_len (L : List Ov) : (Ov.all L).length = L.length := by simp [Ov.all]
end Go.Proofs.Ytjjomfpkdbfhdaa

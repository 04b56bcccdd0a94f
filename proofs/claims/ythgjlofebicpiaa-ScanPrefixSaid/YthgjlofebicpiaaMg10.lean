/-
  ScC
-/
import Derived.Test.YthgjlofebicpiaaMg09
/-
  Package scan: Chain, Last; the answer's Chain and Same.
-/
namespace Go.Proofs.Ythgjlofebicpiaa
open Go.RowKit Word Rec Scan
set_option linter.unusedVariables false

section
variable {w : World} {ops : Array Oper} {rest : List Oper} {o : Oper} {a : Act} {Q : Exit → Act → World → Prop}
theorem wpList_fo_slice1 (hgd : o.guard = none) (x : Operand) (ho : o.op = .buildSlice 29 1 #[(0, x)]) (L : List Value) (hL : L.length = 38) (hx : a.eval x = .agg L.toArray)
    (h : wpList Try.prog ops Q rest (a.put o.dst (.slice (some ⟨w.heap.size, 0, none⟩) 1 1)) (w.alloc (.cells L.toArray 56))) : wpList Try.prog ops Q (o :: rest) a w := by
  refine wpList_plain hgd fun K hK => ?_
  have hr := run_buildSlice_one (P := Try.prog) w elemF (by decide) L hL
  unfold Oper.wp
  simp [execOp, ho, hx, hr, Result.andThen]
  exact hK _ _ h
end
theorem fo_load {w : World} {B k : Nat} {A : Option Addr} {l : List Fo} {f : Fo} {m : Nat} (hr : Rd w B A (fls l)) (hin : ∀ f ∈ l, FIn f) (hk : l[k]? = some f) (hm : m = 38) :
    ∃ ad, A = some ad ∧ (∀ w', (∀ p : Addr, p.block < B → w'.cell? p = w.cell? p) → (loadCellsFrom (ad.add (k * m)) 0 m #[]).run Try.prog w' = .ok (fcs f).toArray w') ∧ w.cell? ⟨(ad.add (k * m)).block, (ad.add (k * m)).off + 1 + 2, none⟩ = some (.int .i64 f.r.seq) ∧ ad.block < B := by
  obtain ⟨ad, rfl, hb⟩ := fo_some hr hin hk
  have hc := fo_cell hr hin hk
  subst hm
  have e : (⟨(ad.add (k * 38)).block, (ad.add (k * 38)).off + 1 + 2, none⟩ : Addr) = (ad.add (k * 38)).add 3 := by simp [Addr.add]
  refine ⟨ad, rfl, fun w' hw => ?_, by rw [e]; exact hc 3 _ rfl, hb⟩
  exact big_load Try.prog _ (fcs f) 38 (fcs_length (hin f (List.mem_of_getElem? hk))) w' fun j v hv => (hw _ (by rw [addr_add_block, addr_add_block]; exact hb)).trans (hc j v hv)

set_option maxRecDepth 100000 in
set_option maxHeartbeats 4000000 in
/-- Chain of any list -/
theorem chain_any (A : Option Addr) (len cap : Nat) (l : List Fo) (s : Int) (w : World) (hl : l.length = len) (hm : len ≤ 100000) (hin : ∀ f ∈ l, FIn f) (hs : 0 ≤ s ∧ s ≤ 9223372036854000000) (hr : Rd w w.heap.size A (fls l)) :
    Calls Try.prog 16 #[.slice A len cap, .int .i64 s] w fun e w' => ∃ V, e = .returned V ∧ w'.ownsRow w.heap.size 56 38 V (chainS l s).length (fls (chainS l s)) ∧ Below w.heap.size w w' := by
  obtain ⟨m, hm38, hsz⟩ := big_size (P := Try.prog) (t := 56) (s := 38) (by kernel_rfl)
  have hm0 : ¬ m = 0 := by omega
  have HM := Lib.hid hm38
  have HL := Lib.hid hl
  have HR := Lib.hid hr
  have HI := Lib.hid hin
  have HS := Lib.hid hs
  clear hm38 hl hr hin hs
  go_enter Try.func16, Try.ntmps16
  go_wp2
  go_loopw [1, 5, 10] (fun t o i wr => ∃ (k : Nat) (out : List Fo), k ≤ len ∧ out.length ≤ k ∧ i = .int .i64 k ∧ t = .int .i64 (s + out.length) ∧ (∀ f ∈ out, FIn f) ∧ wr.ownsRow w.heap.size 56 38 o out.length (fls out) ∧ chainS l s = out ++ chainS (l.drop k) (s + out.length) ∧ Below w.heap.size w wr) (fun _ _ i _ => len - (intOf i).toNat)
  case atStart => exact ⟨0, [], by omega, Nat.le_refl _, rfl, by simp, by simp, World.ownsRow_nil _ _ _ _, by simp, Below.refl _ _⟩
  case round =>
    obtain ⟨k, out, hk, hok, rfl, rfl, hoi, hown, hch, hbl⟩ := hrel
    have HC := Lib.hid hch
    have HO := Lib.hid (And.intro hoi (And.intro hown hbl))
    have HK := Lib.hid hok
    clear hoi hown hch hbl hok
    by_cases hlt : k < len
    · have hkl : k < l.length := by rw [HL.out]; exact hlt
      have hlk : l[k]? = some (l[k]'hkl) := List.getElem?_eq_getElem hkl
      have hD := chain_drop (s + out.length) hkl
      obtain ⟨ad, rfl, hld, _, hadb⟩ := fo_load (m := m) (HR.out.below HO.out.2.2) HI.out hlk HM.out
      have hld := hld wr fun _ _ => rfl
      have HF := Lib.hid (HI.out _ (List.getElem_mem hkl))
      have HD := Lib.hid hD
      generalize l[k]'hkl = f at *
      have hki : (k : Int) < (len : Int) := by omega
      have hfl := Lib.hid (fcs_length HF.out)
      have hsb : s + (out.length : Int) + 1 ≤ 9223372036854775807 := by have := HS.out; have := HK.out; omega
      have hsw := IntWalk.i64_in (s + (out.length : Int) + 1) (by have := HS.out; omega)
      clear hlk hkl hD hadb
      by_cases hq : f.r.seq = s + out.length + 1
      · have hqb : (f.r.seq == s + (out.length : Int) + 1) = true := by simp [hq]
        have HE := Lib.hid (show chainS l s = (out ++ [f]) ++ chainS (l.drop (k + 1)) (s + (out ++ [f]).length) by
          rw [HC.out, HD.out, if_pos hq, List.length_append, List.append_assoc]
          simp [Int.add_assoc])
        clear hq HC HD
        go_wp2_with (first
          | ((with_reducible refine wpList_fo_alloc (o := ⟨some 7, .alloc _, _, _, _, _⟩) rfl rfl ?_); intro w1 x1 hB1 hs1; clear hs1)
          | ((with_reducible refine wpList_fo_store (o := ⟨none, .store _ _ _, _, _, _, _⟩) rfl _ _ rfl wr.heap.size f fo0 HF.out fo0_in rfl rfl x1 ?_); go_loud (intro w2 x2 hg2 _; have K2 := below_stored hB1 hg2 hB1.size (Nat.le_refl _); have O2 := Lib.hid (own_below HO.out.2.1 K2); have B2 := Lib.hid (bthen HO.out.2.2 K2); have l2 := big_load0 Try.prog wr.heap.size 0 (fcs f) m (by rw [hfl.out, HM.out]) _ x2.range0; have c3 : w2.cell? ⟨wr.heap.size, 3, none⟩ = some (.int .i64 f.r.seq) := x2.fo.2; clear x1 hB1 hg2 K2 x2; generalize wr.heap.size = bx at *))
          | ((with_reducible refine wpList_fo_slice1 (o := ⟨some 22, .buildSlice _ _ _, _, _, _, _⟩) rfl _ rfl (fcs f) hfl.out rfl ?_))
          | (at_builtin; go_loud (refine wpList_append_new _ rfl _ _ _ rfl w.heap.size 56 _ 38 80 elemF u5 _ _ rfl (fcs f) rfl O2.out hfl.out (fcs_one f) (by have := HK.out; simp only [maxLen]; omega) (by have := HK.out; omega) B2.out.size ?_); go_loud (intro v1 w3 hown1 hg1; have O3 := Lib.hid (And.intro hown1 (B2.out.grown hg1 B2.out.size fun g hg => (O2.out.lt g hg).1)); clear hown1 hg1 O2 B2 l2 c3))
          | fail)
        go_roundw
        case rel =>
          refine ⟨k + 1, out ++ [f], by omega, by have := HK.out; simp; omega, by go_num, ?_, ?_, ?_, HE.out, O3.out.2⟩
          · rw [List.length_append]; simp; omega
          · intro g hg
            rcases List.mem_append.1 hg with h | h
            · exact HO.out.1 g h
            · rw [List.mem_singleton.1 h]; exact HF.out
          · rw [List.length_append, fls_append, fls_single]; exact O3.out.1
        case measure => first | (simp [intOf]; done) | (simp [intOf]; omega)
      · have hqb : (f.r.seq == s + (out.length : Int) + 1) = false := by simp [hq]
        have HE := Lib.hid (show chainS l s = out ++ chainS (l.drop (k + 1)) (s + out.length) by rw [HC.out, HD.out, if_neg hq])
        clear hq HC HD
        go_wp2_with (first
          | ((with_reducible refine wpList_fo_alloc (o := ⟨some 7, .alloc _, _, _, _, _⟩) rfl rfl ?_); intro w1 x1 hB1 hs1; clear hs1)
          | ((with_reducible refine wpList_fo_store (o := ⟨none, .store _ _ _, _, _, _, _⟩) rfl _ _ rfl wr.heap.size f fo0 HF.out fo0_in rfl rfl x1 ?_); go_loud (intro w2 x2 hg2 _; have K2 := below_stored hB1 hg2 hB1.size (Nat.le_refl _); have O2 := Lib.hid (own_below HO.out.2.1 K2); have B2 := Lib.hid (bthen HO.out.2.2 K2); have c3 : w2.cell? ⟨wr.heap.size, 3, none⟩ = some (.int .i64 f.r.seq) := x2.fo.2; clear x1 hB1 hg2 K2 x2; generalize wr.heap.size = bx at *))
          | fail)
        go_roundw
        case rel => exact ⟨k + 1, out, by omega, by have := HK.out; omega, by go_num, rfl, HO.out.1, O2.out, HE.out, B2.out⟩
        case measure => first | (simp [intOf]; done) | (simp [intOf]; omega)
    · obtain rfl : len = k := by omega
      have HE := Lib.hid (show chainS l s = out by rw [HC.out, List.drop_of_length_le (by rw [HL.out]; exact Nat.le_refl _)]; simp [chainS])
      clear HC
      go_wp2
      go_ret
      exact ⟨_, rfl, by rw [HE.out]; exact HO.out.2.1, HO.out.2.2⟩

theorem chain_in {l : List Fo} {s : Int} (h : ∀ f ∈ l, FIn f) : ∀ f ∈ chainS l s, FIn f := fun f hf => h f (chain_mem hf)
set_option maxRecDepth 100000 in
set_option maxHeartbeats 4000000 in
/-- Last of any list -/
theorem last_any (A : Option Addr) (len cap : Nat) (l : List Fo) (s : Int) (w : World) (hl : l.length = len) (hm : len ≤ 100000) (hin : ∀ f ∈ l, FIn f) (hs : 0 ≤ s ∧ s ≤ 9223372036854000000) (hr : Rd w w.heap.size A (fls l)) :
    Calls Try.prog 17 #[.slice A len cap, .int .i64 s] w fun e w' => e = .returned (.int .i64 (s + (chainS l s).length)) ∧ Below w.heap.size w w' := by
  obtain ⟨m, hm38, hsz⟩ := big_size (P := Try.prog) (t := 56) (s := 38) (by kernel_rfl)
  have hm0 : ¬ m = 0 := by omega
  have HM := Lib.hid hm38
  have HC := Lib.hid (chain_any A len cap l s w hl hm hin hs hr)
  have HI := Lib.hid (chain_in (s := s) hin)
  have HN := Lib.hid (show (chainS l s).length ≤ len from hl ▸ chain_length l s)
  have HQ := Lib.hid fun (i : Nat) (f : Fo) (h : (chainS l s)[i]? = some f) => chain_seq h
  clear hm38 hl hin hs hr
  generalize chainS l s = c at *
  go_enter Try.func17, Try.ntmps17
  go_wp2_with fail
  refine HC.out.mono ?_
  rintro e w1 ⟨V, rfl, hown, hbl⟩
  obtain ⟨Av, cv, rfl⟩ := own_slice hown
  have HR := Lib.hid (Rd.own hown)
  have HB := Lib.hid hbl
  have hcl : c.length ≤ 9223372036854775807 := by have := HN.out; omega
  clear hown hbl HC
  go_wp2
  go_loopw [1, 11] (fun t i wr => ∃ k : Nat, k ≤ c.length ∧ i = .int .i64 k ∧ t = .int .i64 (s + k) ∧ Below w1.heap.size w1 wr) (fun _ i _ => c.length - (intOf i).toNat)
  case atStart => exact ⟨0, by omega, rfl, by simp, Below.refl _ _⟩
  case round =>
    obtain ⟨k, hk, rfl, rfl, hb⟩ := hrel
    by_cases hlt : k < c.length
    · have hlk : c[k]? = some (c[k]'hlt) := List.getElem?_eq_getElem hlt
      have hsq := HQ.out k _ hlk
      obtain ⟨ad, rfl, hld, _, _⟩ := fo_load (m := m) (HR.out.below hb) HI.out hlk HM.out
      have hld := hld wr fun _ _ => rfl
      have HF := Lib.hid (HI.out _ (List.getElem_mem hlt))
      generalize c[k]'hlt = f at *
      have hki : (k : Int) < (c.length : Int) := by omega
      have HS := Lib.hid (And.intro hsq hb)
      clear hlk hsq hb
      go_wp2_with (first
        | ((with_reducible refine wpList_fo_alloc (o := ⟨some 6, .alloc _, _, _, _, _⟩) rfl rfl ?_); intro w2 x1 hB1 hs1; clear hs1)
        | ((with_reducible refine wpList_fo_store (o := ⟨none, .store _ _ _, _, _, _, _⟩) rfl _ _ rfl wr.heap.size f fo0 HF.out fo0_in rfl rfl x1 ?_); go_loud (intro w3 x2 hg2 _; have K2 := below_stored hB1 hg2 hB1.size (Nat.le_refl _); have B2 := Lib.hid (bthen HS.out.2 K2); have c3 : w3.cell? ⟨wr.heap.size, 3, none⟩ = some (.int .i64 f.r.seq) := x2.fo.2; clear x1 hB1 hg2 K2 x2; generalize wr.heap.size = bx at *))
        | fail)
      go_roundw
      case rel => exact ⟨k + 1, by omega, by go_num, by rw [HS.out.1]; push_cast; simp [Int.add_comm, Int.add_left_comm], B2.out⟩
      case measure => first | (simp [intOf]; done) | (simp [intOf]; omega)
    · obtain rfl : c.length = k := by omega
      have HB2 := Lib.hid (bthen HB.out hb)
      clear hb
      go_wp2
      go_ret
      exact ⟨rfl, HB2.out⟩

set_option maxRecDepth 100000 in
set_option maxHeartbeats 4000000 in
/-- two lists of found records are compared -/
theorem fsame_any (A A' : Option Addr) (len cap len' cap' : Nat) (w : World) (hl : len ≤ 100000) (hl' : len' ≤ 100000) (xs ys : List Fo) (hx : xs.length = len) (hy : ys.length = len') (ix : ∀ l ∈ xs, FIn l) (iy : ∀ l ∈ ys, FIn l)
    (B : Nat) (hr : Rd w B A (fls xs)) (hr' : Rd w B A' (fls ys)) :
    Calls Try.prog 11 #[.slice A len cap, .slice A' len' cap'] w fun e w' => (∃ b, e = .returned (.bool b) ∧ (b = true ↔ xs = ys)) ∧ ∃ n, w.drewN n = w' := by
  obtain ⟨m, hm, hsz⟩ := big_size (P := Try.prog) (t := 56) (s := 38) (by kernel_rfl)
  have hm0 : ¬ m = 0 := by omega
  have HM := Lib.hid hm
  have HX := Lib.hid hx
  have HY := Lib.hid hy
  have HR := Lib.hid (And.intro hr hr')
  have HI := Lib.hid (And.intro ix iy)
  have hgd := guard_found
  clear hx hy hm hr hr' ix iy
  by_cases hne : len = len'
  · subst hne
    go_enter Try.func11, Try.ntmps11
    go_wp2
    go_loopw [5] (fun i wr => ∃ k : Nat, k ≤ len ∧ i = .int .i64 k ∧ xs.take k = ys.take k ∧ ∃ n, w.drewN n = wr) (fun i _ => len - (intOf i).toNat)
    case atStart => exact ⟨0, by omega, rfl, rfl, 0, rfl⟩
    case round =>
      obtain ⟨k, hk, rfl, HT, q, rfl⟩ := hrel
      have HT := Lib.hid HT
      by_cases hlt : k < len
      · have hkx : k < xs.length := by rw [HX.out]; omega
        have hky : k < ys.length := by rw [HY.out]; omega
        obtain ⟨a, ha⟩ : ∃ a, xs[k]? = some a := ⟨xs[k], by simp [hkx]⟩
        obtain ⟨b, hb⟩ : ∃ b, ys[k]? = some b := ⟨ys[k], by simp [hky]⟩
        obtain ⟨ad, rfl, hla, _, _⟩ := fo_load (m := m) HR.out.1 HI.out.1 ha HM.out
        obtain ⟨ad', rfl, hlb, _, _⟩ := fo_load (m := m) HR.out.2 HI.out.2 hb HM.out
        have hla := fun j : Nat => hla (w.drewN j) fun _ _ => rfl
        have hlb := fun j : Nat => hlb (w.drewN j) fun _ _ => rfl
        have ia := HI.out.1 a (List.mem_of_getElem? ha)
        have ib := HI.out.2 b (List.mem_of_getElem? hb)
        have heq := fun w' => equal_found w' a b ia ib
        have e : xs.take (k + 1) = xs.take k ++ [a] := by
          rw [List.take_succ_eq_append_getElem hkx]
          obtain ⟨_, rfl⟩ := List.getElem?_eq_some_iff.1 ha
          rfl
        have e' : ys.take (k + 1) = ys.take k ++ [b] := by
          rw [List.take_succ_eq_append_getElem hky]
          obtain ⟨_, rfl⟩ := List.getElem?_eq_some_iff.1 hb
          rfl
        have HE := Lib.hid (And.intro e e')
        have hki : (k : Int) < (len : Int) := by omega
        clear e e' ha hb hkx hky ia ib
        cases hcc : foEq a b
        · rw [hcc] at heq
          have HXY : Hid (¬ xs = ys) := Lib.hid (by
            rintro rfl
            have h := HE.out.1.symm.trans HE.out.2
            have h2 : a = b := by simpa using h
            rw [(foEq_iff a b).2 h2] at hcc
            cases hcc)
          clear hcc
          go_wp2
          go_quiet (fail)
          go_wp2
          go_ret
          exact ⟨⟨_, rfl, by constructor <;> intro h; cases h; exact absurd h HXY.out⟩, _, (World.drewN_drewN ..).symm⟩
        · rw [hcc] at heq
          obtain rfl := (foEq_iff a b).1 hcc
          clear hcc
          go_wp2
          go_quiet (fail)
          go_wp2
          go_roundw
          case rel => exact ⟨k + 1, by omega, by go_num, by rw [HE.out.1, HE.out.2, HT.out], _, rfl⟩
          case measure => first | (simp [intOf]; done) | (simp [intOf]; omega)
      · obtain rfl : len = k := by omega
        have HXY : Hid (xs = ys) := Lib.hid (by
          have h := HT.out
          rwa [List.take_of_length_le (by rw [HX.out]; omega), List.take_of_length_le (by rw [HY.out]; omega)] at h)
        go_wp2
        go_ret
        exact ⟨⟨_, rfl, fun _ => HXY.out, fun _ => rfl⟩, _, rfl⟩
  · have HXY : Hid (¬ xs = ys) := Lib.hid (by
      rintro rfl
      have h1 := HX.out
      have h2 := HY.out
      omega)
    have hq : ((len : Int) != (len' : Int)) = true := by rw [bne_iff_ne]; omega
    go_enter Try.func11, Try.ntmps11
    go_wp2
    go_ret
    exact ⟨⟨_, rfl, by constructor <;> intro h; cases h; exact absurd h HXY.out⟩, 0, rfl⟩

namespace Scan
/-- the first one at m or behind with this number: where it is, or that there is none -/
def At (l : List Fo) (t : Int) (m : Nat) (a : Int) : Prop :=
  (a = -1 ∧ ∀ j (h : j < l.length), m ≤ j → ¬ (l[j]'h).r.seq = t) ∨ ∃ i : Nat, a = i ∧ ∃ h : i < l.length, m ≤ i ∧ (l[i]'h).r.seq = t ∧ ∀ j (h : j < l.length), m ≤ j → j < i → ¬ (l[j]'h).r.seq = t
theorem At.yes {l : List Fo} {t : Int} {m : Nat} (h : m < l.length) (he : (l[m]'h).r.seq = t) : At l t m m := .inr ⟨m, rfl, h, Nat.le_refl _, he, fun j _ h1 h2 => by omega⟩
theorem At.no {l : List Fo} {t a : Int} {m : Nat} (h : m < l.length) (he : ¬ (l[m]'h).r.seq = t) (k : At l t (m + 1) a) : At l t m a := by
  have hm : ∀ j (h : j < l.length), m ≤ j → m + 1 ≤ j ∨ j = m := fun j _ h1 => by omega
  rcases k with ⟨h1, h2⟩ | ⟨i, h1, h2, h3, h4, h5⟩
  · refine .inl ⟨h1, fun j hj hmj => ?_⟩
    rcases hm j hj hmj with h6 | rfl
    · exact h2 j hj h6
    · exact he
  · refine .inr ⟨i, h1, h2, by omega, h4, fun j hj hmj hji => ?_⟩
    rcases hm j hj hmj with h6 | rfl
    · exact h5 j hj h6 hji
    · exact he
theorem At.none {l : List Fo} {t a : Int} {m : Nat} (k : At l (t + 1) m a) (h : a < 0) : chainS (l.drop m) t = [] := by
  rcases k with ⟨h1, h2⟩ | ⟨i, h1, _⟩
  · refine chain_none fun f hf => ?_
    obtain ⟨j, hj, rfl⟩ := List.getElem_of_mem hf
    rw [List.getElem_drop]
    exact h2 _ (by simp at hj; omega) (by omega)
  · omega
theorem At.some {l : List Fo} {t a : Int} {m : Nat} (k : At l (t + 1) m a) (h : ¬ a < 0) : ∃ (i : Nat) (hi : i < l.length), a = i ∧ m ≤ i ∧ (l[i]'hi).r.seq = t + 1 ∧ chainS (l.drop m) t = l[i]'hi :: chainS (l.drop (i + 1)) (t + 1) := by
  rcases k with ⟨h1, h2⟩ | ⟨i, h1, h2, h3, h4, h5⟩
  · omega
  · refine ⟨i, h2, h1, h3, h4, ?_⟩
    rw [chain_skip (i - m) (i := m) (j := i) (by omega) (by omega) fun j hj h6 h7 => h5 j hj h6 h7, chain_drop t h2, if_pos h4]
end Scan
set_option maxRecDepth 100000 in
set_option maxHeartbeats 4000000 in
/-- the answer's Chain of any list -/
theorem rchain_any (A : Option Addr) (len cap : Nat) (l : List Fo) (s : Int) (w : World) (hl : l.length = len) (hm : len ≤ 100000) (hin : ∀ f ∈ l, FIn f) (hs : 0 ≤ s ∧ s ≤ 9223372036854000000) (hr : Rd w w.heap.size A (fls l)) :
    Calls Try.prog 15 #[.slice A len cap, .int .i64 s] w fun e w' => ∃ V, e = .returned V ∧ w'.ownsRow w.heap.size 56 38 V (chainS l s).length (fls (chainS l s)) ∧ Below w.heap.size w w' := by
  obtain ⟨m, hm38, hsz⟩ := big_size (P := Try.prog) (t := 56) (s := 38) (by kernel_rfl)
  have hm0 : ¬ m = 0 := by omega
  have HM := Lib.hid hm38
  have HL := Lib.hid hl
  have HR := Lib.hid hr
  have HI := Lib.hid hin
  have HS := Lib.hid hs
  clear hm38 hl hr hin hs
  go_enter Try.func15, Try.ntmps15
  go_wp2
  go_loopw [5, 6] (fun o i wr => ∃ (k : Nat) (out : List Fo), k ≤ len ∧ out.length ≤ k ∧ i = .int .i64 k ∧ (∀ f ∈ out, FIn f) ∧ wr.ownsRow w.heap.size 56 38 o out.length (fls out) ∧ chainS l s = out ++ chainS (l.drop k) (s + out.length) ∧ Below w.heap.size w wr) (fun _ i _ => len + 1 - (intOf i).toNat)
  case atStart => exact ⟨0, [], by omega, Nat.le_refl _, rfl, by simp, World.ownsRow_nil _ _ _ _, by simp, Below.refl _ _⟩
  case round =>
    obtain ⟨k, out, hk, hok, rfl, hoi, hown, hch, hbl⟩ := hrel
    have HC := Lib.hid hch
    obtain ⟨Ao, co, rfl⟩ := own_slice hown
    have HO := Lib.hid (And.intro hoi (And.intro hown hbl))
    have HK := Lib.hid hok
    clear hoi hown hch hbl hok
    have hsb : s + 1 + (out.length : Int) ≤ 9223372036854775807 := by have := HS.out; have := HK.out; omega
    have hs1 : IntKind.i64.wrap (s + 1) = s + 1 := IntWalk.i64_in _ (by have := HS.out; omega)
    have hsw : IntKind.i64.wrap (s + 1 + (out.length : Int)) = s + 1 + (out.length : Int) := IntWalk.i64_in _ (by have := HS.out; omega)
    have HT := Lib.hid (show s + 1 + (out.length : Int) = (s + out.length) + 1 by omega)
    have hA0 : At l (s + 1 + out.length) len (-1) := .inl ⟨rfl, fun j hj h => by have := HL.out; omega⟩
    have HA0 := Lib.hid hA0
    clear hA0
    go_wp2
    go_loop [7, 8] (fun a i => ∃ (q : Nat) (av iv : Int), k ≤ q ∧ q ≤ len ∧ i = .int .i64 iv ∧ iv = (q : Int) - 1 ∧ a = .int .i64 av ∧ At l (s + 1 + out.length) q av) (fun _ i => (intOf i + 1 - k).toNat)
    case atStart => exact ⟨len, -1, (len : Int) - 1, hk, Nat.le_refl _, rfl, rfl, rfl, HA0.out⟩
    case round =>
      clear HA0
      obtain ⟨q, av, iv, hkq, hql, rfl, hiv, rfl, hat⟩ := hrel
      have HA := Lib.hid hat
      clear hat
      by_cases hlt : k < q
      · obtain ⟨p, rfl⟩ : ∃ p, q = p + 1 := ⟨q - 1, by omega⟩
        obtain rfl : iv = (p : Int) := by omega
        clear hiv
        have hpl : p < l.length := by rw [HL.out]; omega
        have hlk : l[p]? = some (l[p]'hpl) := List.getElem?_eq_getElem hpl
        obtain ⟨ad, rfl, hj1, c3, hj2⟩ := fo_load (m := m) (HR.out.below HO.out.2.2) HI.out hlk HM.out
        clear hj1 hj2
        have HPl := Lib.hid hpl
        have hfe : (l[p]'HPl.out).r.seq = (l[p]'hpl).r.seq := rfl
        have HFE := Lib.hid hfe
        clear hfe
        generalize hg : (l[p]'hpl).r.seq = x at c3
        have HG : Hid ((l[p]'HPl.out).r.seq = x) := Lib.hid hg
        clear hg HFE hlk hpl
        have hpi : (p : Int) < (len : Int) := by omega
        have hkp : (k : Int) ≤ (p : Int) := by omega
        have hp0 : (0 : Int) ≤ (p : Int) := by omega
        clear hlt hkq
        by_cases hq : x = s + 1 + out.length
        · have hqb : (x == s + 1 + (out.length : Int)) = true := by simp [hq]
          have HN := Lib.hid (show At l (s + 1 + out.length) p p from At.yes HPl.out (HG.out.trans hq))
          clear hq HA
          go_wp2
          go_round
          case rel => exact ⟨p, (p : Int), (p : Int) - 1, by omega, by omega, by go_num, rfl, rfl, HN.out⟩
          case measure => simp [intOf]; omega
        · have hqb : (x == s + 1 + (out.length : Int)) = false := by simp [hq]
          have HN := Lib.hid (show At l (s + 1 + out.length) p av from At.no HPl.out (fun h => hq (HG.out.symm.trans h)) HA.out)
          clear hq HA
          go_wp2
          go_round
          case rel => exact ⟨p, av, (p : Int) - 1, by omega, by omega, by go_num, rfl, rfl, HN.out⟩
          case measure => simp [intOf]; omega
      · obtain rfl : q = k := by omega
        have hlt : iv < (q : Int) := by omega
        clear hiv
        rw [HT.out] at HA
        by_cases hn : av < 0
        · have HE := Lib.hid (show chainS l s = out by rw [HC.out, HA.out.none hn]; simp)
          clear HC HA
          go_wp2
          go_ret
          exact ⟨_, rfl, by rw [HE.out]; exact HO.out.2.1, HO.out.2.2⟩
        · obtain ⟨i, hi, rfl, hqi, _, hE⟩ := HA.out.some hn
          have hlk : l[i]? = some (l[i]'hi) := List.getElem?_eq_getElem hi
          obtain ⟨ad, rfl, hld, hj1, hj2⟩ := fo_load (m := m) (HR.out.below HO.out.2.2) HI.out hlk HM.out
          clear hj1 hj2
          have hld := hld wr fun _ _ => rfl
          have HF := Lib.hid (HI.out _ (List.getElem_mem hi))
          have HE := Lib.hid (show chainS l s = (out ++ [l[i]'hi]) ++ chainS (l.drop (i + 1)) (s + (out ++ [l[i]'hi]).length) by
            rw [HC.out, hE, List.length_append, List.append_assoc]
            simp [Int.add_assoc])
          have hil : i < len := by rw [← HL.out]; exact hi
          have hii : (i : Int) < (len : Int) := by omega
          generalize l[i]'hi = f at *
          have hfl := Lib.hid (fcs_length HF.out)
          clear hlk hE HC HA hn hi
          go_wp2_with (first
            | ((with_reducible refine wpList_fo_slice1 (o := ⟨some 38, .buildSlice _ _ _, _, _, _, _⟩) rfl _ rfl (fcs f) hfl.out rfl ?_))
            | (at_builtin; go_loud (refine wpList_append_new _ rfl _ _ _ rfl w.heap.size 56 _ 38 80 elemF (.slice Ao out.length co) _ _ rfl (fcs f) rfl HO.out.2.1 hfl.out (fcs_one f) (by have := HK.out; simp only [maxLen]; omega) (by have := HK.out; omega) HO.out.2.2.size ?_); go_loud (intro v1 w3 hown1 hg1; have O3 := Lib.hid (And.intro hown1 (HO.out.2.2.grown hg1 HO.out.2.2.size fun g hg => (HO.out.2.1.lt g hg).1)); clear hown1 hg1))
            | fail)
          go_roundw
          case rel =>
            refine ⟨i + 1, out ++ [f], by omega, by have := HK.out; simp; omega, by go_num, ?_, ?_, HE.out, O3.out.2⟩
            · intro g hg
              rcases List.mem_append.1 hg with h | h
              · exact HO.out.1 g h
              · rw [List.mem_singleton.1 h]; exact HF.out
            · rw [List.length_append, fls_append, fls_single]; exact O3.out.1
          case measure => first | (simp [intOf]; done) | (simp [intOf]; omega)
end Go.Proofs.Ythgjlofebicpiaa

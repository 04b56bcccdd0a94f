/-
  Package snap: Commit.
-/
import Derived.Test.YtjjomfpkdbfhdaaSnD
import Derived.StillTailTactics
namespace Go.Proofs.Ytjjomfpkdbfhdaa
open Go.RowKit Word Snap
set_option linter.unusedVariables false

theorem w64_of {x : Int} (h0 : -9223372036854775808 ≤ x) (h1 : x < 9223372036854775808) : W64 x := by
  simp [W64, Lit.wf, IntKind.min, IntKind.max, IntKind.signed, IntKind.bits]
  omega
/-- what is kept of a change is built, in a still region -/
theorem wpStill_was_build {w : World} {ops : Array Oper} {Q : Act → Prop} {a : Act} {o : Oper} {rest : List Oper} (hgd : o.guard = none) (x0 x1 : Operand) (ho : o.op = .build 63 #[(0, x0), (1, x1)]) (y : Ol × Int) (hr : OIn y.1) (h0 : a.eval x0 = .agg (ocs y.1).toArray) (h1 : a.eval x1 = .int .i64 y.2)
    (h : wpStill Try.prog ops w Q rest (a.put o.dst (wv y))) : wpStill Try.prog ops w Q (o :: rest) a := by
  refine wpStill_step fun K hK => ?_
  have hw : Region.wanted o (yielded ops a.tmps) = true := by simp [Region.wanted, hgd]
  rw [if_pos hw]
  have hx : (execOp a.eval o).run Try.prog w = .ok (.value (wv y)) w := by simp [execOp, ho, h0, h1, run_build_was w y hr, Result.andThen]
  unfold Oper.still
  rw [hx, Oper.stillUpon_value]
  exact hK _ h
section
variable {w w' w1 w2 w3 : World} {d b c m : Nat} {now g : Int} {lf : Int → Nat} {K K' : List Kp}
theorem SnRaw.tick (t : SnRaw w d b c m now g lf K) (n2 : Int) : SnRaw (w.setCell ⟨d, 0, none⟩ (.int .i64 n2)) d b c m n2 g lf K ∧ Fr (Tri d b c) w (w.setCell ⟨d, 0, none⟩ (.int .i64 n2)) := by
  obtain ⟨n1, n3, n4⟩ := t.apart
  obtain ⟨f, h1, h2⟩ := t.ls
  have hf : Fr (fun k => k = d) w (w.setCell ⟨d, 0, none⟩ (.int .i64 n2)) := Fr.of_setCell w ⟨d, 0, none⟩ _ rfl
  refine ⟨⟨t.bx.set 0 _, ⟨f, h1.same (hf.same h1.lt (Ne.symm n1)), h2⟩, t.kp.same (hf.same t.kp.lt (Ne.symm n3)), n4⟩, hf.mono fun k _ h => .inl h⟩
theorem SnRaw.put {f : Int → Option Value} {z : Int} {v : Nat} (t : SnRaw w1 d b c m now g lf K) (h1 : MapL w2 c (m + 1) K') (f1 : Fr (fun k => k = c) w1 w2) (hf : ∀ x, (f x).getD (.int .i64 0) = .int .i64 (lf x : Int))
    (h2 : MapIi w3 b (m + 1) (updI f z (some (.int .i64 (v : Int))))) (f2 : Fr (fun k => k = b) w2 w3) : SnRaw w3 d b c (m + 1) now g (fun x => if x = z then v else lf x) K' ∧ Fr (Tri d b c) w1 w3 := by
  obtain ⟨n1, n2, n3⟩ := t.apart
  have hs := f1.size
  refine ⟨⟨t.bx.same ((f2.same (Nat.lt_of_lt_of_le t.bx.lt hs) n1).trans (f1.same t.bx.lt n2)), ⟨_, h2, fun x => ?_⟩, h1.same (f2.same h1.lt (fun e => n3 e.symm)), n3⟩, (f1.mono fun k _ h => .inr (.inr h)).trans (f2.mono fun k _ h => .inr (.inl h))⟩
  unfold updI
  by_cases hx : x = z
  · rw [if_pos hx, if_pos hx]
    rfl
  · rw [if_neg hx, if_neg hx]
    exact hf x
end
set_option maxRecDepth 100000 in
set_option maxHeartbeats 4000000 in
theorem commit_any (d b c m : Nat) (all : List (List Ol)) (g : Nat) (A : Option Addr) (len cap : Nat) (l : List Ol) (w : World) (t : SnIs w d b c m all g) (hl : l.length = len) (hin : ∀ o ∈ l, OIn o) (hr : Rd w w.heap.size A (ols l)) (hm : m + len ≤ 100000) (hn : all.length ≤ 100000) :
    Calls Try.prog 20 #[snp d, .slice A len cap] w fun e w' => e = .returned (.tuple #[]) ∧ SnIs w' d b c (m + len) (all ++ [l]) g ∧ Fr (Tri d b c) w w' := by
  obtain ⟨m3, hm3, hsz⟩ := big_size (P := Try.prog) (t := 38) (s := 34) (by kernel_rfl)
  have hm0 : ¬ m3 = 0 := by omega
  have HM := Lib.hid hm3
  clear hm3
  have HRow : Hid (∀ wr, Fr (Tri d b c) w wr → Rd wr w.heap.size A (ols l)) := Lib.hid fun wr hf => hr.fr hf (Nat.le_refl _) fun ad e hx => by
    subst e
    exact t.raw.row hin (by rintro rfl; exact hx rfl) hr
  have HE : Hid (∀ wr, SnRaw wr d b c (m + len) ((all.length : Int) + 1) g (lastK all l len) (keptK all g l len) → SnIs wr d b c (m + len) (all ++ [l]) g) := Lib.hid fun wr h => by
    subst hl
    rw [keptK_end t.le, show lastK all l l.length = fun z => lastN (all ++ [l]) z (all ++ [l]).length from funext fun z => lastK_end] at h
    refine ⟨?_, by have := t.le; simp; omega⟩
    rw [show (((all ++ [l]).length : Nat) : Int) = (all.length : Int) + 1 by simp]
    exact h
  obtain ⟨h1, h2⟩ := t.raw.tick ((all.length : Int) + 1)
  have HT : Hid (SnRaw (w.setCell ⟨d, 0, none⟩ (.int .i64 ((all.length : Int) + 1))) d b c m ((all.length : Int) + 1) g (lastK all l 0) (keptK all g l 0) ∧ Fr (Tri d b c) w (w.setCell ⟨d, 0, none⟩ (.int .i64 ((all.length : Int) + 1)))) := Lib.hid ⟨by
    rw [keptK_zero, show lastK all l 0 = fun z => lastN all z all.length from funext fun z => lastK_zero]
    exact h1, h2⟩
  obtain ⟨c0, c1, c2, c3⟩ := t.raw.mem
  have f0 : w.frozen? ⟨d, 0, none⟩ = false := t.raw.bx.frozen 0
  have HL := Lib.hid (And.intro hl (And.intro hin (And.intro hm hn)))
  have hq := IntWalk.i64_in ((all.length : Int) + 1) (by omega)
  have hlm : len ≤ 100000 := by omega
  clear hl hr hin t h1 h2 hm hn
  go_enter Try.func20, Try.ntmps20
  go_wp2
  generalize w.setCell _ _ = w1 at HT ⊢
  clear c0 c1 c2 c3 f0
  go_loopw [16] (fun i wr => ∃ k : Nat, k ≤ len ∧ i = .int .i64 k ∧ SnRaw wr d b c (m + k) ((all.length : Int) + 1) g (lastK all l k) (keptK all g l k) ∧ Fr (Tri d b c) w wr) (fun i _ => len - (intOf i).toNat)
  case atStart => exact ⟨0, by omega, rfl, HT.out.1, HT.out.2⟩
  case round =>
    obtain ⟨k, hk, rfl, hst, hfr⟩ := hrel
    by_cases hlt : k < len
    · have hkl : k < l.length := by rw [HL.out.1]; exact hlt
      have hlk : l[k]? = some (l[k]'hkl) := List.getElem?_eq_getElem hkl
      obtain ⟨ad, rfl, hld, hadb⟩ := ol_load (m := m3) (HRow.out wr hfr) HL.out.2.1 hlk HM.out
      have HO := Lib.hid (HL.out.2.1 _ (List.getElem_mem hkl))
      generalize l[k]'hkl = o at *
      have hki : (k : Int) < (len : Int) := by omega
      have H64 := Lib.hid (And.intro HO.out.2 (w64_of (x := (all.length : Int) + 1) (by have := HL.out; omega) (by have := HL.out; omega)))
      have HMN := Lib.hid (show m + k < maxLen by have := HL.out; unfold maxLen; omega)
      have HS := Lib.hid (And.intro hst hfr)
      clear hst hfr hadb HT
      by_cases ht : lastK all l k o.b = all.length + 1
      · have HN : Hid (lastK all l (k + 1) = lastK all l k ∧ keptK all g l (k + 1) = keptK all g l k) := Lib.hid ⟨lastK_old hlk ht, keptK_old hlk ht⟩
        have htb : (((lastK all l k o.b : Nat) : Int) == (all.length : Int) + 1) = true := by rw [ht]; simp
        clear ht hlk hkl
        go_wp2_with (first
          | ((with_reducible refine wpList_ol_alloc (o := ⟨some 5, .alloc _, _, _, _, _⟩) rfl rfl ?_); intro w2 x2 hB2 hs2; clear hs2)
          | ((with_reducible refine wpList_ol_store (o := ⟨none, .store _ _ _, _, _, _, _⟩) rfl _ _ rfl wr.heap.size o ol0 HO.out ol0_in rfl rfl x2 ?_); go_loud (intro w3 x3 hg3 _; have K3 := below_stored hB2 hg3 hB2.size (Nat.le_refl _); have S3 := HS.out.1.on K3; obtain ⟨c0, c1, c2, c3⟩ := S3.mem; obtain ⟨o0, o1⟩ := x3.ol; have hlk : ∀ q : Nat, (Instr.lookup 58 (.map (some b)) (.int .i64 o.b) false).run Try.prog (w3.drewN q) = .ok (.int .i64 (lastK all l k o.b : Int)) (w3.drewN q) := fun q => (S3.drewN q).lastly H64.out.1; have H3 : Hid (SnRaw w3 d b c (m + k) ((all.length : Int) + 1) g (lastK all l k) (keptK all g l k) ∧ Fr (Tri d b c) w w3) := Lib.hid ⟨S3, HS.out.2.trans (Fr.of_below K3)⟩; clear x2 hB2 hg3 K3 x3 S3 HS hld; generalize wr.heap.size = bx at *))
          | fail)
        go_quiet (fail)
        have H4 : Hid (SnRaw (w3.drewN nq) d b c (m + k) ((all.length : Int) + 1) g (lastK all l k) (keptK all g l k) ∧ Fr (Tri d b c) w (w3.drewN nq)) := Lib.hid ⟨H3.out.1.drewN nq, H3.out.2.drewN nq⟩
        have c0 : (w3.drewN nq).cell? ⟨d, 0, none⟩ = some (.int .i64 ((all.length : Int) + 1)) := c0
        clear hlk c1 c2 c3 o0 o1
        generalize w3.drewN nq = w4 at c0 H4 ⊢
        generalize lastK all l k o.b = q at *
        go_wp2
        go_roundw
        case rel => exact ⟨k + 1, by omega, by go_num, by rw [HN.out.1, HN.out.2]; exact H4.out.1.mono (by omega), H4.out.2⟩
        case measure => first | (simp [intOf]; done) | (simp [intOf]; omega)
      · have HN : Hid (lastK all l (k + 1) = (fun x => if x = o.b then all.length + 1 else lastK all l k x) ∧ keptK all g l (k + 1) = keptK all g l k ++ [((o.b, (all.length : Int) + 1), (o, (lastK all l k o.b : Int)))]) := Lib.hid ⟨lastK_new hlk, keptK_new hlk ht⟩
        have HFr := Lib.hid (keptK_fresh (g := g) (show k ≤ l.length by omega) ht)
        have htb : (((lastK all l k o.b : Nat) : Int) == (all.length : Int) + 1) = false := by
          have : ¬ ((lastK all l k o.b : Nat) : Int) = (all.length : Int) + 1 := by omega
          simpa using this
        clear ht hlk hkl
        go_wp2_with (first
          | ((with_reducible refine wpList_ol_alloc (o := ⟨some 5, .alloc _, _, _, _, _⟩) rfl rfl ?_); intro w2 x2 hB2 hs2; clear hs2)
          | ((with_reducible refine wpList_ol_store (o := ⟨none, .store _ _ _, _, _, _, _⟩) rfl _ _ rfl wr.heap.size o ol0 HO.out ol0_in rfl rfl x2 ?_); go_loud (intro w3 x3 hg3 _; have K3 := below_stored hB2 hg3 hB2.size (Nat.le_refl _); have S3 := HS.out.1.on K3; obtain ⟨c0, c1, c2, c3⟩ := S3.mem; obtain ⟨o0, o1⟩ := x3.ol; have hlk : ∀ q : Nat, (Instr.lookup 58 (.map (some b)) (.int .i64 o.b) false).run Try.prog (w3.drewN q) = .ok (.int .i64 (lastK all l k o.b : Int)) (w3.drewN q) := fun q => (S3.drewN q).lastly H64.out.1; have H3 : Hid (SnRaw w3 d b c (m + k) ((all.length : Int) + 1) g (lastK all l k) (keptK all g l k) ∧ Fr (Tri d b c) w w3 ∧ Box w3 wr.heap.size 38 (ocs o)) := Lib.hid ⟨S3, HS.out.2.trans (Fr.of_below K3), x3⟩; clear x2 hB2 hg3 K3 x3 S3 HS hld; generalize wr.heap.size = bx at *))
          | fail)
        go_quiet (fail)
        have H4 : Hid (SnRaw (w3.drewN nq) d b c (m + k) ((all.length : Int) + 1) g (lastK all l k) (keptK all g l k) ∧ Fr (Tri d b c) w (w3.drewN nq) ∧ Box (w3.drewN nq) bx 38 (ocs o)) := Lib.hid ⟨H3.out.1.drewN nq, H3.out.2.1.drewN nq, H3.out.2.2⟩
        clear hlk c0 c1 c2 c3 o0 o1
        generalize w3.drewN nq = w4 at H4 ⊢
        obtain ⟨c0, c1, c2, c3⟩ := H4.out.1.mem
        obtain ⟨o0, o1⟩ := H4.out.2.2.ol
        have hld : ∀ q : Nat, (loadCellsFrom ⟨bx, 0, none⟩ 0 m3 #[]).run Try.prog (w4.drewN q) = .ok (ocs o).toArray (w4.drewN q) := fun q => Box.olAll (w := w4.drewN q) H4.out.2.2 HO.out HM.out
        have hld2 : (loadCellsFrom ⟨bx, 0, none⟩ 0 m3 #[]).run Try.prog w4.drew = .ok (ocs o).toArray w4.drew := Box.olAll (w := w4.drew) H4.out.2.2 HO.out HM.out
        obtain ⟨f, hfm, hfv⟩ := H4.out.1.ls
        have HF := Lib.hid (And.intro hfm hfv)
        clear hfm hfv
        generalize lastK all l k o.b = q at *
        go_wp2_with fail
        go_still_tail 14, (by kernel_rfl)
        refine wpStill_was_build rfl _ _ rfl (o, (q : Int)) HO.out rfl rfl ?_
        refine wpStill_nil ?_
        change wpList _ _ _ _ _ w4.drew
        refine wpList_ch_store _ rfl _ _ _ _ rfl Try.underlying59 c (m + k) (keptK all g l k) rfl (H4.out.1.kp.same rfl) HMN.out (o.b, (all.length : Int) + 1) rfl H64.out.1 H64.out.2 (o, (q : Int)) HO.out HFr.out rfl ?_
        intro w5 hm5 ht5
        have hg5 := ht5.grown
        have f5 : Fr (fun k => k = c) w4 w5 := (Fr.refl _).drew.trans (Fr.of_grown hg5 fun k e => by injection e with e; exact e.symm)
        obtain ⟨n1, n2, n3⟩ := H4.out.1.apart
        obtain ⟨l1, l2, l3⟩ := H4.out.1.lts
        have nbx : bx ≠ c := H4.out.1.kp.ne_box H4.out.2.2
        have c0 : w5.cell? ⟨d, 0, none⟩ = some (.int .i64 ((all.length : Int) + 1)) := (f5.cell (a := ⟨d, 0, none⟩) l1 n2).trans c0
        have c2 : w5.cell? ⟨d, 2, none⟩ = some (.map (some b)) := (f5.cell (a := ⟨d, 2, none⟩) l1 n2).trans c2
        have o0 : w5.cell? ⟨bx, 0, none⟩ = some (.int .i64 o.b) := (f5.cell (a := ⟨bx, 0, none⟩) H4.out.2.2.lt nbx).trans o0
        have hmi : MapIi w5 b (m + k) f := HF.out.1.same (f5.same l2 n3)
        have H5 := Lib.hid (And.intro hm5 (And.intro f5 hmi))
        clear hm5 ht5 hg5 f5 hmi hld hld2 c1 c3 o1 n1 n2 n3 l1 l2 l3 nbx
        go_wp2_with fail
        go_still_tail 10, (by kernel_rfl)
        change wpList _ _ _ _ _ w5.drew
        refine wpList_il_store _ rfl _ _ _ _ rfl 3 Try.underlying58 b (m + k) _ rfl (H5.out.2.2.same (w' := w5.drew) rfl) HMN.out o.b rfl H64.out.1 _ rfl ?_
        intro w6 hm6 ht6
        have hg6 := ht6.grown
        have f6 : Fr (fun k => k = b) w5 w6 := (Fr.refl _).drew.trans (Fr.of_grown hg6 fun k e => by injection e with e; exact e.symm)
        have K6 := Lib.hid (H4.out.1.put (v := all.length + 1) H5.out.1 H5.out.2.1 HF.out.2 hm6 f6)
        clear hm6 ht6 hg6 f6 c0 c2 o0
        go_wp2
        go_roundw
        case rel => exact ⟨k + 1, by omega, by go_num, by rw [HN.out.1, HN.out.2]; exact K6.out.1, H4.out.2.1.trans K6.out.2⟩
        case measure => first | (simp [intOf]; done) | (simp [intOf]; omega)
    · obtain rfl : len = k := by omega
      go_wp2
      go_end0
      exact ⟨rfl, HE.out _ hst, hfr⟩
end Go.Proofs.Ytjjomfpkdbfhdaa

/-
  Package roll: Groups of whatever records.
-/
import Derived.Test.YtkbgogofedppgaaRoC
namespace Go.Proofs.Ytkbgogofedppgaa
open Go.RowKit Word Rec Scan Roll
set_option linter.unusedVariables false

/-- what Groups has in hand: the groups, and the changes behind the last Commit -/
structure GrSt (w wr : World) (V3 V4 : Value) (L : List Gv) (c : List Ch) : Prop where
  out : GOwn wr w.heap.size V3 L
  chs : wr.ownsRow w.heap.size 44 2 V4 c.length (hls c)
  away : ∀ x ∈ L, ∀ b, x.v.ownBlock = some b → V4.ownBlock ≠ some b
  below : Below w.heap.size w wr
section
variable {w wr w' : World} {V3 V4 V' : Value} {L : List Gv} {c : List Ch}
theorem GrSt.on (h : GrSt w wr V3 V4 L c) (hb : Below wr.heap.size wr w') : GrSt w w' V3 V4 L c := ⟨h.out.on hb, own_below h.chs hb, h.away, bthen h.below hb⟩
theorem GrSt.put {x : Ch} (h : GrSt w wr V3 V4 L c) (hg : wr.grownBy w' V4.ownBlock) (hown : w'.ownsRow w.heap.size 44 2 V' (c.length + 1) (hls c ++ hcs x)) (hb : ∀ b, b < wr.heap.size → V4.ownBlock ≠ some b → V'.ownBlock ≠ some b) : GrSt w w' V3 V' L (c ++ [x]) := by
  refine ⟨h.out.beside hg (types_apart h.out.row h.chs) h.away, by rw [List.length_append, hls_append, hls_single]; exact hown, fun y hy b hy' => ?_, h.below.grown hg h.below.size fun k hk => (h.chs.lt k hk).1⟩
  exact hb b ((h.out.each y hy).lt b hy').2 (h.away y hy b hy')
theorem GrSt.gone {A : Option Addr} {n k : Nat} (h : GrSt w wr V3 (.slice A n k) L c) (hg : wr.grownBy w' (Value.slice A n k).ownBlock) (hown : w'.ownsRow w.heap.size 44 2 (.slice A 0 k) 0 []) : GrSt w w' V3 (.slice A 0 k) L [] :=
  ⟨h.out.beside hg (types_apart h.out.row h.chs) h.away, hown, fun x hx b hb => by have := h.away x hx b hb; cases A <;> exact this, h.below.grown hg h.below.size fun k hk => (h.chs.lt k hk).1⟩
theorem GrSt.group {x : Gv} {B : Nat} (h : GrSt w wr V3 V4 L c) (hg : wr.grownBy w' V3.ownBlock) (hx : wr.ownsRow B 44 2 x.v x.g.ch.length (hls x.g.ch)) (hB : w.heap.size ≤ B) (hn : ∀ b, V4.ownBlock = some b → b < B) (hl : ∀ y ∈ L, ∀ b, y.v.ownBlock = some b → b < B)
    (hr : w'.ownsRow w.heap.size 28 3 V' (L.length + 1) (gvs L ++ gcs x)) : GrSt w w' V' V4 (L ++ [x]) c := by
  refine ⟨h.out.more hg (own_base0 hx hB) (fun y hy b hb e => ?_) hr, row_kept h.chs hg fun b hb e => types_apart h.out.row h.chs b e hb, fun y hy b hb e => ?_, h.below.grown hg h.below.size fun k hk => (h.out.row.lt k hk).1⟩
  · have h1 := hl y hy b hb
    have h2 := (hx.lt b e).1
    omega
  · rcases List.mem_append.1 hy with hy | hy
    · exact h.away y hy b hb e
    · obtain rfl := List.mem_singleton.1 hy
      have h1 := hn b e
      have h2 := (hx.lt b hb).1
      omega
end
theorem fo_load38 {w : World} {B k : Nat} {A : Option Addr} {l : List Fo} {f : Fo} {m : Nat} (hr : Rd w B A (fls l)) (hin : ∀ f ∈ l, FIn f) (hk : l[k]? = some f) (hm : m = 38) :
    ∃ ad, A = some ad ∧ (loadCellsFrom (ad.add (k * m)) 0 m #[]).run Try.prog w = .ok (fcs f).toArray w ∧ ad.block < B := by
  obtain ⟨ad, rfl, hb⟩ := fo_some hr hin hk
  have hc := fo_cell hr hin hk
  subst hm
  exact ⟨ad, rfl, big_load Try.prog _ (fcs f) 38 (fcs_length (hin f (List.mem_of_getElem? hk))) w hc, hb⟩
theorem Box.fo5 {w : World} {b : Nat} {T : TypeId} {f : Fo} (h : Box w b T (fcs f)) : w.cell? ⟨b, 0, none⟩ = some (.int .i64 f.pl) ∧ w.cell? ⟨b, 1, none⟩ = some (.int .i64 f.r.kind) ∧ w.cell? ⟨b, 4, none⟩ = some (.int .i64 f.r.block) ∧ w.cell? ⟨b, 5, none⟩ = some (.int .i64 f.r.count) :=
  ⟨h.cell 0, h.cell 1, h.cell 4, h.cell 5⟩
theorem Box.foRec {w : World} {b m : Nat} {T : TypeId} {f : Fo} (h : Box w b T (fcs f)) (hi : FIn f) (hm : m = 37) : (loadCellsFrom ⟨b, 1, none⟩ 0 m #[]).run Try.prog w = .ok (rcs f.r).toArray w :=
  big_load0 Try.prog b 1 (rcs f.r) m (by rw [rcs_length hi.1, hm]) w (h.range 1 _ fun j v hj => by
    rw [Nat.add_comm]
    exact hj)
set_option maxRecDepth 100000 in
set_option maxHeartbeats 4000000 in
theorem groups_any (A : Option Addr) (len cap : Nat) (l : List Fo) (w : World) (hl : l.length = len) (hm : len ≤ 1000) (hin : ∀ f ∈ l, FIn f) (hr : Rd w w.heap.size A (fls l)) :
    Calls Try.prog 13 #[.slice A len cap] w fun e w' => ∃ V L, e = .returned V ∧ L.map Gv.g = groups l ∧ GOwn w' w.heap.size V L ∧ Below w.heap.size w w' := by
  obtain ⟨m, hm38, hsz⟩ := big_size (P := Try.prog) (t := 41) (s := 38) (by kernel_rfl)
  obtain ⟨q, hq37, hsq⟩ := big_size (P := Try.prog) (t := 39) (s := 37) (by kernel_rfl)
  have hm0 : ¬ m = 0 := by omega
  have hq0 : ¬ q = 0 := by omega
  have HM := Lib.hid hm38
  have HQ := Lib.hid hq37
  have HL := Lib.hid hl
  have HR := Lib.hid hr
  have HI := Lib.hid hin
  clear hm38 hq37 hl hr hin
  go_enter Try.func13, Try.ntmps13
  go_wp2
  go_loopw [3, 4, 9] (fun V3 V4 i wr => ∃ (k : Nat) (L : List Gv) (c : List Ch), k ≤ len ∧ L.length ≤ k ∧ c.length ≤ k ∧ i = .int .i64 k ∧ GrSt w wr V3 V4 L c ∧ rollG (l.take k) = (L.map Gv.g, c)) (fun _ _ i _ => len - (intOf i).toNat)
  case atStart => exact ⟨0, [], [], by omega, Nat.le_refl _, Nat.le_refl _, rfl, ⟨GOwn.nil _ _, World.ownsRow_nil _ _ _ _, by simp, Below.refl _ _⟩, rfl⟩
  case round =>
    obtain ⟨k, L, c, hk, hLk, hck, rfl, hst, hro⟩ := hrel
    obtain ⟨A3, c3, e3⟩ := own_slice hst.out.row
    obtain ⟨A4, c4, e4⟩ := own_slice hst.chs
    subst e3 e4
    have HS := Lib.hid hst
    have HO := Lib.hid hro
    have HK := Lib.hid (And.intro hLk hck)
    clear hst hro hLk hck
    by_cases hlt : k < len
    · have hkl : k < l.length := by rw [HL.out]; exact hlt
      have hlk : l[k]? = some (l[k]'hkl) := List.getElem?_eq_getElem hkl
      have hD : l.take (k + 1) = l.take k ++ [l[k]'hkl] := List.take_succ_eq_append_getElem hkl
      obtain ⟨ad, rfl, hld, hadb⟩ := fo_load38 (m := m) ((HR.out.below HS.out.below)) HI.out hlk HM.out
      have HF := Lib.hid (HI.out _ (List.getElem_mem hkl))
      have HD := Lib.hid (show rollG (l.take (k + 1)) = rollS (L.map Gv.g, c) (l[k]'hkl) by rw [hD, rollG_snoc, HO.out])
      generalize l[k]'hkl = f at *
      have hki : (k : Int) < (len : Int) := by omega
      clear hlk hkl hD hadb HO
      by_cases hk1 : f.r.kind = 1
      · have hb1 : (f.r.kind == 1) = true := by simp [hk1]
        have HE := Lib.hid (show rollG (l.take (k + 1)) = (L.map Gv.g, c ++ [⟨f.r.block, f.pl⟩]) by
          rw [HD.out, rollS_no (by omega)]
          simp [chOf, hk1])
        clear hk1 HD
        go_wp2_with (first
          | ((with_reducible refine wpList_fo_alloc (o := ⟨some 6, .alloc _, _, _, _, _⟩) rfl rfl ?_); intro w1 x1 hB1 hs1; clear hs1)
          | ((with_reducible refine wpList_fo_store (o := ⟨none, .store _ _ _, _, _, _, _⟩) rfl _ _ rfl wr.heap.size f fo0 HF.out fo0_in rfl rfl x1 ?_); go_loud (intro w2 x2 hg2 _; have K2 := below_stored hB1 hg2 hB1.size (Nat.le_refl _); have S2 := Lib.hid (HS.out.on K2); obtain ⟨f0, f1, f4, f5⟩ := x2.fo5; clear x1 hB1 hg2 K2 x2; generalize wr.heap.size = bx at *))
          | ((with_reducible refine wpList_slice_one _ (o := ⟨some 32, .buildSlice _ _ _, _, _, _, _⟩) rfl 26 44 _ rfl _ 2 16 elemC (by decide) (hcs ⟨f.r.block, f.pl⟩) rfl rfl ?_))
          | (at_builtin; go_loud (refine wpList_append_tell _ rfl _ _ _ rfl w.heap.size 44 _ 2 16 elemC (.slice A4 c.length c4) _ _ rfl (hcs ⟨f.r.block, f.pl⟩) rfl S2.out.chs rfl (hcs_one _) (by have := HK.out; simp only [maxLen]; omega) (by have := HK.out; omega) S2.out.below.size ?_); go_loud (intro v1 w3 hown1 hg1 ht1; have S3 := Lib.hid (S2.out.put hg1 hown1 ht1); clear hown1 hg1 ht1 S2 f0 f1 f4 f5))
          | fail)
        go_roundw
        case rel => exact ⟨k + 1, L, c ++ [⟨f.r.block, f.pl⟩], by omega, by have := HK.out; omega, by have := HK.out; simp; omega, by go_num, S3.out, HE.out⟩
        case measure => first | (simp [intOf]; done) | (simp [intOf]; omega)
      · by_cases hk3 : f.r.kind = 3
        · have hb1 : (f.r.kind == 1) = false := by simp [hk1]
          have hb3 : (f.r.kind == 3) = true := by simp [hk3]
          have hz1 : Hid (∀ u ∈ (Value.agg #[.int .i64 0, .int .i64 0]).cells.toList, u.oneCell' = true) := Lib.hid (by
            intro u hu
            simp [Value.cells] at hu
            subst hu
            rfl)
          by_cases hcn : f.r.count = c.length
          · have hbc : (f.r.count == (c.length : Int)) = true := by simp [hcn]
            have HE := Lib.hid (show rollG (l.take (k + 1)) = (L.map Gv.g ++ [gpOf f c], []) from HD.out.trans (rollS_yes hk3 hcn))
            clear hk1 hk3 hcn HD
            go_wp2_with (first
              | ((with_reducible refine wpList_fo_alloc (o := ⟨some 6, .alloc _, _, _, _, _⟩) rfl rfl ?_); intro w1 x1 hB1 hs1; clear hs1)
              | ((with_reducible refine wpList_fo_store (o := ⟨none, .store _ _ _, _, _, _, _⟩) rfl _ _ rfl wr.heap.size f fo0 HF.out fo0_in rfl rfl x1 ?_); go_loud (intro w2 x2 hg2 _; have K2 := below_stored hB1 hg2 hB1.size (Nat.le_refl _); have S2 := Lib.hid (HS.out.on K2); have hrec := x2.foRec HF.out HQ.out; obtain ⟨f0, f1, f4, f5⟩ := x2.fo5; clear x1 hB1 hg2 K2 x2; generalize wr.heap.size = bx at *))
              | fail)
            refine (held_any f.r A4 c.length c4 c w2 HF.out (by have := HK.out; omega) rfl (Rd.own S2.out.chs)).mono ?_
            rintro e w3 ⟨x, rfl, hxg, hxo, hb3⟩
            have S3 := Lib.hid (S2.out.on hb3)
            have HX := Lib.hid hxo
            have HG := Lib.hid (show (L ++ [x]).map Gv.g = L.map Gv.g ++ [gpOf f c] by rw [List.map_append, List.map_singleton, hxg]; rfl)
            clear hxg hxo hb3 f0 f1 f4 f5 hrec
            go_wp2_with (first
              | ((with_reducible refine wpList_slice_one _ (o := ⟨some 47, .buildSlice _ _ _, _, _, _, _⟩) rfl 23 28 _ rfl _ 3 40 elemG (by decide) (gcs x) rfl rfl ?_))
              | (at_builtin; go_loud (refine wpList_append_tell _ rfl _ _ _ rfl w.heap.size 28 _ 3 40 elemG (.slice A3 L.length c3) _ _ rfl (gcs x) rfl S3.out.out.row rfl (gcs_one _) (by have := HK.out; simp only [maxLen]; omega) (by have := HK.out; omega) S3.out.below.size ?_); go_loud (intro v1 w4 hown1 hg1 _; have S4 := Lib.hid (S3.out.group hg1 HX.out S2.out.below.size (fun b hb => (S2.out.chs.lt b hb).2) (fun y hy b hb => ((S2.out.out.each y hy).lt b hb).2) hown1); clear hown1 hg1 S2 S3 HX))
              | ((with_reducible refine wpList_clear_row _ (o := ⟨none, .call _, _, _, _, _⟩) rfl _ 26 44 rfl Try.underlying26 (.agg #[.int .i64 0, .int .i64 0]) zero_ch 2 rfl (by decide) hz1.out w.heap.size c.length c4 A4 (hls c) rfl S4.out.chs ?_); go_loud (intro w7 hown7 hg7; have S7 := Lib.hid (S4.out.gone hg7 hown7); clear hown7 hg7 S4))
              | fail)
            go_roundw
            case rel => exact ⟨k + 1, L ++ [x], [], by omega, by have := HK.out; simp; omega, by simp, by go_num, S7.out, by rw [HE.out, HG.out]⟩
            case measure => first | (simp [intOf]; done) | (simp [intOf]; omega)
          · have hbc : (f.r.count == (c.length : Int)) = false := by simp [hcn]
            have HE := Lib.hid (show rollG (l.take (k + 1)) = (L.map Gv.g, []) from HD.out.trans (rollS_bad hk3 hcn))
            clear hk1 hk3 hcn HD
            go_wp2_with (first
              | ((with_reducible refine wpList_fo_alloc (o := ⟨some 6, .alloc _, _, _, _, _⟩) rfl rfl ?_); intro w1 x1 hB1 hs1; clear hs1)
              | ((with_reducible refine wpList_fo_store (o := ⟨none, .store _ _ _, _, _, _, _⟩) rfl _ _ rfl wr.heap.size f fo0 HF.out fo0_in rfl rfl x1 ?_); go_loud (intro w2 x2 hg2 _; have K2 := below_stored hB1 hg2 hB1.size (Nat.le_refl _); have S2 := Lib.hid (HS.out.on K2);  obtain ⟨f0, f1, f4, f5⟩ := x2.fo5; clear x1 hB1 hg2 K2 x2; generalize wr.heap.size = bx at *))
              | ((with_reducible refine wpList_clear_row _ (o := ⟨none, .call _, _, _, _, _⟩) rfl _ 26 44 rfl Try.underlying26 (.agg #[.int .i64 0, .int .i64 0]) zero_ch 2 rfl (by decide) hz1.out w.heap.size c.length c4 A4 (hls c) rfl S2.out.chs ?_); go_loud (intro w7 hown7 hg7; have S7 := Lib.hid (S2.out.gone hg7 hown7); clear hown7 hg7 S2 f0 f1 f4 f5))
              | fail)
            go_roundw
            case rel => exact ⟨k + 1, L, [], by omega, by have := HK.out; omega, by simp, by go_num, S7.out, HE.out⟩
            case measure => first | (simp [intOf]; done) | (simp [intOf]; omega)
        · have hb1 : (f.r.kind == 1) = false := by simp [hk1]
          have hb3 : (f.r.kind == 3) = false := by simp [hk3]
          have HE := Lib.hid (show rollG (l.take (k + 1)) = (L.map Gv.g, c ++ [⟨f.r.block, 0⟩]) by
            rw [HD.out, rollS_no hk3]
            simp [chOf, hk1])
          clear hk1 hk3 HD
          go_wp2_with (first
            | ((with_reducible refine wpList_fo_alloc (o := ⟨some 6, .alloc _, _, _, _, _⟩) rfl rfl ?_); intro w1 x1 hB1 hs1; clear hs1)
            | ((with_reducible refine wpList_fo_store (o := ⟨none, .store _ _ _, _, _, _, _⟩) rfl _ _ rfl wr.heap.size f fo0 HF.out fo0_in rfl rfl x1 ?_); go_loud (intro w2 x2 hg2 _; have K2 := below_stored hB1 hg2 hB1.size (Nat.le_refl _); have S2 := Lib.hid (HS.out.on K2);  obtain ⟨f0, f1, f4, f5⟩ := x2.fo5; clear x1 hB1 hg2 K2 x2; generalize wr.heap.size = bx at *))
            | ((with_reducible refine wpList_slice_one _ (o := ⟨some 21, .buildSlice _ _ _, _, _, _, _⟩) rfl 26 44 _ rfl _ 2 16 elemC (by decide) (hcs ⟨f.r.block, 0⟩) rfl rfl ?_))
            | (at_builtin; go_loud (refine wpList_append_tell _ rfl _ _ _ rfl w.heap.size 44 _ 2 16 elemC (.slice A4 c.length c4) _ _ rfl (hcs ⟨f.r.block, 0⟩) rfl S2.out.chs rfl (hcs_one _) (by have := HK.out; simp only [maxLen]; omega) (by have := HK.out; omega) S2.out.below.size ?_); go_loud (intro v1 w3 hown1 hg1 ht1; have S3 := Lib.hid (S2.out.put hg1 hown1 ht1); clear hown1 hg1 ht1 S2 f0 f1 f4 f5))
            | fail)
          go_roundw
          case rel => exact ⟨k + 1, L, c ++ [⟨f.r.block, 0⟩], by omega, by have := HK.out; omega, by have := HK.out; simp; omega, by go_num, S3.out, HE.out⟩
          case measure => first | (simp [intOf]; done) | (simp [intOf]; omega)
    · obtain rfl : len = k := by omega
      have HE := Lib.hid (show L.map Gv.g = groups l by
        have h := HO.out
        rw [List.take_of_length_le (by rw [HL.out]; exact Nat.le_refl _)] at h
        unfold groups
        rw [h])
      clear HO
      go_wp2
      go_ret
      exact ⟨_, L, rfl, HE.out, HS.out.out, HS.out.below⟩
end Go.Proofs.Ytkbgogofedppgaa

/-
  The document's answer for layer 17: Size.
-/
import Derived.Test.YtjjomfpkdbfhdaaSnI
import Derived.Test.YtjjomfpkdbfhdaaAlloc
namespace Go.Proofs.Ytjjomfpkdbfhdaa
open Go.RowKit Word Snap
set_option linter.unusedVariables false

/-- what Size has in hand -/
structure RSz (w wr : World) (A : Option Addr) (n cap : Nat) (g : Int) : Prop where
  lg : Box wr w.heap.size 29 [.slice A n cap, .int .i64 g]
  below : Below w.heap.size w wr
theorem RSz.on {w wr w' : World} {A : Option Addr} {n cap : Nat} {g : Int} (h : RSz w wr A n cap g) (hb : Below wr.heap.size wr w') : RSz w w' A n cap g := ⟨h.lg.on hb, bthen h.below hb⟩
section
variable {P : Program} (w : World)
/-- a variable of whatever size is made, at a step of a region that draws its order -/
theorem step_alloc_box {ops : Array Oper} {o : Oper} {a : Act} {K : Act → World → Prop} {Q : Exit → Act → World → Prop} {E : Prop} (hgd : o.guard = none) (t : TypeId) (ho : o.op = .alloc t) (cs : List Value) (hz : ∀ w, (zeroValue t).run P w = .ok (.agg cs.toArray) w)
    (h : ∀ w', Box w' w.heap.size t cs → Below w.heap.size w w' → K (a.put o.dst (.pointer (some ⟨w.heap.size, 0, none⟩))) w') : if Region.wanted o (yielded ops a.tmps) = true then Oper.wp P o a w K Q else E := by
  have hw : Region.wanted o (yielded ops a.tmps) = true := by simp [Region.wanted, hgd]
  rw [if_pos hw]
  have e : (Instr.alloc t true (.tuple #[])).run P w = .ok (.pointer (some ⟨w.heap.size, 0, none⟩)) (w.alloc (.cells cs.toArray t)) := by
    simp [Instr.alloc, hz w, newVar, newRow, newObj, Value.cells]
    rfl
  unfold Oper.wp execOp
  simp only [ho, Sem.run_bind, e, Result.andThen_ok]
  exact h _ (Box.new w t cs) ((Below.refl _ _).alloc (Nat.le_refl _) _)
end
theorem below_setRow {B g : Nat} {a w : World} {cs : Array Value} (h : Below B a w) (hg : B ≤ g) : Below B a (w.setRow g cs) := ⟨h.os, h.tape, h.output, by simpa [World.setRow] using h.size, fun k hk => (setRow_other _ _ _ _ (by omega)).trans (h.block k hk)⟩
/-- where all orders of a region come to one end, but for one block -/
def MeetB (A : Nat → Act) (R : World → Nat → Prop) : Exit → Act → World → Prop
  | .normal, a, w => ∃ b, R w b ∧ a = A b
  | _, _, _ => False
theorem wp_meetB {P : Program} {c : Code} {Q : Exit → Act → World → Prop} {a : Act} {w : World} {A : Nat → Act} (R : World → Nat → Prop) (h : c.wp P (MeetB A R) a w) (h2 : ∀ w' b, R w' b → Q .normal (A b) w') : c.wp P Q a w :=
  Code.wp_mono (fun e a' w' hm => by
    cases e <;> first | exact (hm : False).elim | (obtain ⟨b, hr, rfl⟩ := (hm : ∃ b, R w' b ∧ a' = A b); exact h2 _ b hr)) h
theorem firstsK_step {l : List Ol} {k : Nat} {o : Ol} (h : l[k]? = some o) : (firstsK l (k + 1)).length = (firstsK l k).length + if (inn (l.take k) o.b).isSome = true then 0 else 1 := by
  cases hn : inn (l.take k) o.b with
  | none => rw [firstsK_new h hn]; simp
  | some q => rw [firstsK_old h (by rw [hn]; rfl)]; simp
theorem keptN_step {all : List (List Ol)} {g j : Nat} (hg : g ≤ j) : (keptN all g (j + 1)).length = (keptN all g j).length + (firsts (all.getD j [])).length := by
  conv => lhs; unfold keptN
  rw [List.length_append, if_pos hg, List.length_map]
set_option maxRecDepth 100000 in
set_option maxHeartbeats 4000000 in
theorem rsize_any (A : Option Addr) (n cap : Nat) (L : List Ov) (g : Nat) (w : World) (hl : L.length = n) (hn : n ≤ 1000) (hg : g ≤ n) (hr : LRd w w.heap.size A L) :
    Calls Try.prog 19 #[logv A n cap g] w fun e w' => e = .returned (.int .i64 ((kept (Ov.all L) g).length : Int)) ∧ Below w.heap.size w w' := by
  obtain ⟨m3, hm3, hsz⟩ := big_size (P := Try.prog) (t := 38) (s := 34) (by kernel_rfl)
  have hm30 : ¬ m3 = 0 := by omega
  have HM := Lib.hid hm3
  have HL := Lib.hid (And.intro hl hr)
  have hb0 : Below w.heap.size w (w.alloc (.cells #[.slice A n cap, .int .i64 g] 29)) := (Below.refl _ _).alloc (Nat.le_refl _) _
  have hx0 := logBox w 29 A n cap g
  clear hl hr hm3
  go_enter Try.func19, Try.ntmps19
  go_wp2_with fail
  generalize World.alloc _ _ = w1 at hb0 hx0 ⊢
  have a1 : w1.cell? ⟨w.heap.size, 1, none⟩ = some (.int .i64 (g : Int)) := hx0.cell 1
  have H1 : Hid (RSz w w1 A n cap g) := Lib.hid ⟨hx0, hb0⟩
  clear hx0 hb0
  go_wp2
  clear a1
  go_loopw [3, 4] (fun v i wr => ∃ k : Nat, k ≤ n ∧ g ≤ k ∧ i = .int .i64 k ∧ v = .int .i64 ((keptN (Ov.all L) g k).length : Int) ∧ (keptN (Ov.all L) g k).length ≤ k * 200 ∧ RSz w wr A n cap g) (fun _ i _ => n - (intOf i).toNat)
  case atStart => exact ⟨g, hg, Nat.le_refl _, rfl, by rw [keptN_le (Nat.le_refl _)]; rfl, by rw [keptN_le (Nat.le_refl _)]; simp, H1.out⟩
  case round =>
    obtain ⟨i, hi, hgi, rfl, rfl, hb, hst⟩ := hrel
    have a0 : wr.cell? ⟨w.heap.size, 0, none⟩ = some (.slice A n cap) := hst.lg.cell 0
    have HI := Lib.hid (And.intro hst hb)
    clear hst hb H1
    by_cases hlt : i < n
    · have hki : (i : Int) < (n : Int) := by omega
      have hjl : i < L.length := by rw [HL.out.1]; exact hlt
      have hx : L[i]? = some (L[i]'hjl) := List.getElem?_eq_getElem hjl
      have HAt := Lib.hid (show (keptN (Ov.all L) g (i + 1)).length = (keptN (Ov.all L) g i).length + (firsts (L[i]'hjl).olds).length by rw [keptN_step hgi, all_at hx])
      have hov := HL.out.2.each _ (List.getElem_mem hjl)
      generalize L[i]'hjl = x at *
      obtain ⟨xo, xA, xc⟩ := x
      have HOv := Lib.hid hov
      have HX := Lib.hid hx
      have HAt : Hid ((keptN (Ov.all L) g (i + 1)).length = (keptN (Ov.all L) g i).length + (firsts xo).length) := HAt
      have HBd : Hid ((keptN (Ov.all L) g i).length ≤ i * 200 ∧ xo.length ≤ 200) := Lib.hid ⟨HI.out.2, hov.few⟩
      have H1 := Lib.hid HI.out.1
      clear hx hjl hov
      generalize hT : (keptN (Ov.all L) g i).length = T at *
      go_wp2
      clear a0 HI
      go_loopw [3, 5] (fun v k w2 => ∃ j : Nat, j ≤ xo.length ∧ k = .int .i64 j ∧ v = .int .i64 ((T + (firstsK xo j).length : Nat) : Int) ∧ RSz w w2 A n cap g) (fun _ k _ => xo.length - (intOf k).toNat)
      case atStart => exact ⟨0, Nat.zero_le _, rfl, rfl, H1.out⟩
      case round =>
        obtain ⟨j, hj, rfl, rfl, hst⟩ := hrel
        have a0 : wr.cell? ⟨w.heap.size, 0, none⟩ = some (.slice A n cap) := hst.lg.cell 0
        have H2 := Lib.hid hst
        have hrd := HL.out.2.below hst.below
        obtain ⟨ad, rfl, hadb, ca⟩ := hrd.at HX.out
        have ca : wr.cell? (ad.add i) = some (.slice xA xo.length xc) := ca
        clear hst H1
        by_cases hlj : j < xo.length
        · have hji : (j : Int) < (xo.length : Int) := by omega
          have hlk : xo[j]? = some (xo[j]'hlj) := List.getElem?_eq_getElem hlj
          obtain ⟨ad2, rfl, hadb2, hcb⟩ := ol_b (m := m3) (HOv.out.rd.below H2.out.below) HOv.out.ins hlk HM.out
          generalize xo[j]'hlj = o at *
          have hjc : (j : Int) ≤ (xc : Int) := by have := HOv.out.room; simp only at this; omega
          have hj0 : (0 : Int) ≤ (j : Int) := by omega
          have hii : (0 : Int) ≤ (i : Int) := by omega
          have HSt : Hid (∀ w', Below wr.heap.size wr w' → w'.cell? ⟨w.heap.size, 0, none⟩ = some (.slice (some ad) n cap) ∧ w'.cell? (ad.add i) = some (.slice (some ad2) xo.length xc) ∧ w'.cell? (ad2.add (j * m3)) = some (.int .i64 o.b)) := Lib.hid fun w' hb =>
            ⟨(H2.out.on hb).lg.cell 0, (hb.cell (by rw [addr_add_block]; have := H2.out.below.size; omega)).trans ca, (hb.cell (by rw [addr_add_block]; have := H2.out.below.size; omega)).trans hcb⟩
          have HC : Hid (∀ w', Below wr.heap.size wr w' → Calls Try.prog 22 #[.slice (some ad2) j xc, .int .i64 o.b] w' fun e w'' => e = .returned (inv_ (xo.take j) o.b) ∧ Below w'.heap.size w' w'') := Lib.hid fun w' hb =>
            in_any (some ad2) j xc (xo.take j) o.b w' (by rw [List.length_take]; omega) (by have := HBd.out; omega) (fun q hq => HOv.out.ins q (List.mem_of_mem_take hq)) (ols_front j ((HOv.out.rd.below (bthen H2.out.below hb)).more (bthen H2.out.below hb).size))
          have HQ : Hid (OIn ((inn (xo.take j) o.b).getD ol0)) := Lib.hid (by
            cases h : inn (xo.take j) o.b with
            | none => exact ol0_in
            | some q => exact HOv.out.ins q (List.mem_of_mem_take (inn_b h).2))
          have HN := Lib.hid (firstsK_step hlk)
          have HB0 : Hid (Below wr.heap.size wr wr.drew) := Lib.hid (Below.refl _ _).drew
          have HC : Hid (∀ w', Below wr.heap.size wr w' → Calls Try.prog 22 #[.slice (some ad2) j xc, .int .i64 o.b] w' fun e w'' => e = .returned (.tuple #[.agg (ocs ((inn (xo.take j) o.b).getD ol0)).toArray, .bool (inn (xo.take j) o.b).isSome]) ∧ Below w'.heap.size w' w'') := HC
          clear hlk hrd hadb hadb2 hcb ca a0
          generalize (inn (xo.take j) o.b).getD ol0 = q at *
          generalize (inn (xo.take j) o.b).isSome = s at *
          have a0 : wr.cell? ⟨w.heap.size, 0, none⟩ = some (.slice (some ad) n cap) := (HSt.out _ (Below.refl _ _)).1
          have ca := (HSt.out _ (Below.refl _ _)).2.1
          have hcb := (HSt.out _ (Below.refl _ _)).2.2
          have hZe : ∃ Z, Z = ocs ol0 := ⟨_, rfl⟩
          obtain ⟨Z, hZ⟩ := hZe
          have hz0 : ∀ w, (zeroValue 38).run Try.prog w = .ok (.agg Z.toArray) w := fun w => by rw [hZ]; exact zero_old w
          have HZl : Hid (Z.length = (ocs q).length) := Lib.hid (by rw [ocs_len HQ.out, hZ, ocs_len ol0_in])
          have HSto : Hid (∀ W b, Box W b 38 Z → (storeCells ⟨b, 0, none⟩ (ocs q) 0).run Try.prog W = .ok () (W.setRow b (ocs q).toArray)) := Lib.hid fun W b hb => big_store Try.prog W b 38 38 Z.toArray (ocs q) hb (ol_size HQ.out) (by simpa using HZl.out) (ocs_one q)
          have hst1 : ∀ W : World, (storeCells ⟨W.heap.size, 0, none⟩ (ocs q) 0).run Try.prog (W.alloc (.cells Z.toArray 38)) = .ok () ((W.alloc (.cells Z.toArray 38)).setRow W.heap.size (ocs q).toArray) := fun W => HSto.out _ _ (Box.new W _ Z)
          have hlq : (ocs q).length = m3 := by rw [ocs_len HQ.out, HM.out]
          clear hZ
          go_wp2_with fail
          apply wp_meetB (fun w' b5 => Below wr.heap.size wr w')
          · go_region_held3 (fun w' => w'.cell? ⟨w.heap.size, 0, none⟩ = some (.slice (some ad) n cap) ∧ w'.cell? (ad.add i) = some (.slice (some ad2) xo.length xc) ∧ w'.cell? (ad2.add (j * m3)) = some (.int .i64 o.b))
              ((refine HSt.out _ ?_; first | exact BB5 | exact HB0.out | exact BB5.alloc BB5.size _ | exact HB0.out.alloc HB0.out.size _ | exact ((Below.refl _ _).alloc (Nat.le_refl _) _).drew | exact below_setRow (BB5.alloc BB5.size _) BB5.size | exact below_setRow BB5 (Nat.le_refl _) | exact Below.refl _ _))
              (first
                | ((with_reducible refine (HC.out _ ?_).mono ?_); (first | exact HB0.out | exact HB0.out.alloc HB0.out.size _ | exact ((Below.refl _ _).alloc (Nat.le_refl _) _).drew); (rintro e w5 ⟨rfl, hb5⟩; have BB5 : Below wr.heap.size wr w5 := (by first | exact HB0.out.trans (hb5.mono HB0.out.size) | exact (HB0.out.alloc HB0.out.size _).trans (hb5.mono (HB0.out.alloc HB0.out.size _).size) | exact (((Below.refl wr.heap.size wr).alloc (Nat.le_refl _) _).drew).trans (hb5.mono ((((Below.refl wr.heap.size wr).alloc (Nat.le_refl _) _).drew).size))); first | (have hst2 := HSto.out w5 wr.heap.size ((Box.new wr _ Z).same (hb5.block _ (by simp)))) | skip)))
            · have F := below_setRow (cs := (ocs q).toArray) (BB5.alloc BB5.size (.cells Z.toArray 38)) BB5.size
              generalize World.setRow _ _ _ = w6 at F ⊢
              generalize w5.heap.size = b6 at F ⊢
              exact ⟨b6, F, rfl⟩
            · have F := below_setRow (cs := (ocs q).toArray) BB5 (Nat.le_refl _)
              generalize World.setRow _ _ _ = w6 at F ⊢
              generalize hb6 : wr.heap.size = b6 at F ⊢
              exact ⟨b6, F, rfl⟩
          rintro w6 b6 hb6
          have H6 := Lib.hid (H2.out.on hb6)
          have hwT := IntWalk.i64_in ((T : Int) + ((firstsK xo j).length : Int) + 1) (by have h1 := HBd.out; have h2 := firstsK_len (l := xo) j; omega)
          have HJ := Lib.hid (show j + 1 ≤ xo.length from hlj)
          have hjn := IntWalk.i64_in ((j : Int) + 1) (by have h1 := HBd.out; omega)
          clear hb6 a0 ca hcb hst1 hz0 hlq HSt HC HSto
          generalize firstsK xo j = fj at *
          cases s
          · have HN2 : Hid ((firstsK xo (j + 1)).length = fj.length + 1) := HN
            clear HN
            go_wp2
            go_roundw
            case rel => exact ⟨j + 1, HJ.out, by go_num, by rw [HN2.out]; exact congrArg (Value.int .i64) (by first | omega | (rw [hwT]; omega)), H6.out⟩
            case measure => first | (simp [intOf]; done) | (simp [intOf]; omega)
          · have HN2 : Hid ((firstsK xo (j + 1)).length = fj.length) := HN
            clear HN
            go_wp2
            go_roundw
            case rel => exact ⟨j + 1, HJ.out, by go_num, by rw [HN2.out]; exact congrArg (Value.int .i64) (by omega), H6.out⟩
            case measure => first | (simp [intOf]; done) | (simp [intOf]; omega)
        · obtain rfl : j = xo.length := by omega
          have HE := Lib.hid (show T + (firstsK xo xo.length).length = (keptN (Ov.all L) g (i + 1)).length by rw [HAt.out]; rfl)
          have hii := IntWalk.i64_in ((i : Int) + 1) (by omega)
          go_wp2
          go_roundw
          case rel => exact ⟨i + 1, by omega, by omega, by go_num, by rw [HE.out], by rw [HAt.out]; have h1 := HBd.out; have h2 := firstsK_len (l := xo) xo.length; unfold firsts; omega, H2.out⟩
          case measure => first | (simp [intOf]; done) | (simp [intOf]; omega)
    · obtain rfl : n = i := by omega
      have HE := Lib.hid (show kept (Ov.all L) g = keptN (Ov.all L) g n by unfold kept; rw [all_len, HL.out.1])
      go_wp2
      go_ret
      exact ⟨by rw [HE.out]; rfl, HI.out.1.below⟩
end Go.Proofs.Ytjjomfpkdbfhdaa

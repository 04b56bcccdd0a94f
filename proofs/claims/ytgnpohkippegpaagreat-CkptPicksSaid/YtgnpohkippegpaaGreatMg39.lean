/-
  CkJ CkW CkR
-/
import Derived.Test.YtgnpohkippegpaaGreatMg37
import Derived.Test.YtgnpohkippegpaaGreatMg38
import Derived.Test.YtgnpohkippegpaaGreatMg36
import Derived.Test.YtgnpohkippegpaaGreatMg31
/-
  Package ckpt: Pick.
-/
namespace Go.Proofs.YtgnpohkippegpaaGreat
open Go.RowKit Geom Zone Dev Ckp Word
set_option linter.unusedVariables false

namespace Ckp
/-- the head of what was found up to now -/
def pm (r : Option (Mast.Mst × List Int)) : Mast.Mst := match r with
  | none => Mast.m0
  | some x => x.1
/-- of what was found, and one more region: the newer one -/
def pkF (r q : Option (Mast.Mst × List Int)) : Option (Mast.Mst × List Int) := match q with
  | none => r
  | some x => if (pm r).gen < x.1.gen then some x else r
/-- what Pick finds in the first k regions -/
def pkTo (D : Dv) (n P : Nat) : Nat → Option (Mast.Mst × List Int)
  | 0 => none
  | k + 1 => pkF (pkTo D n P k) (whS n P (k : Int) (regD D (k : Int) (P + 2)))
/-- what Pick finds -/
def pickS (D : Dv) (n P : Nat) : Option (Mast.Mst × List Int) := pkTo D n P 2
theorem pkF_none (r : Option (Mast.Mst × List Int)) : pkF r none = r := rfl
theorem pkF_yes {r : Option (Mast.Mst × List Int)} {m : Mast.Mst} {ys : List Int} (h : (pm r).gen < m.gen) : pkF r (some (m, ys)) = some (m, ys) := if_pos h
theorem pkF_no {r : Option (Mast.Mst × List Int)} {m : Mast.Mst} {ys : List Int} (h : ¬ (pm r).gen < m.gen) : pkF r (some (m, ys)) = r := if_neg h
end Ckp
/-- the table that was found, in blocks from B on that aren't U's -/
def PkTab (W : World) (B n : Nat) (U : Nat → Prop) (r : Option (Mast.Mst × List Int)) (its : Value) : Prop := match r with
  | none => its = .pointer none
  | some x => ∃ dt gt ht, its = tp dt ∧ TbIs W dt gt ht n x.2 (List.replicate (Tbl.pages n) false) ∧ (B ≤ dt ∧ B ≤ gt ∧ B ≤ ht) ∧ ¬ U dt ∧ ¬ U gt ∧ ¬ U ht
/-- what Pick answers; the table lies in no block of U's -/
def PkPost (w w' : World) (n : Nat) (R : Option (Mast.Mst × List Int)) (e : Ending) (U : Nat → Prop) : Prop := match R with
  | none => e = .returned (.tuple #[.agg (mcs Mast.m0).toArray, .pointer none, .int .i64 15])
  | some x => ∃ dt gt ht, e = .returned (.tuple #[.agg (mcs x.1).toArray, tp dt, .int .i64 0]) ∧ TbIs w' dt gt ht n x.2 (List.replicate (Tbl.pages n) false) ∧ (w.heap.size ≤ dt ∧ w.heap.size ≤ gt ∧ w.heap.size ≤ ht) ∧ ¬ U dt ∧ ¬ U gt ∧ ¬ U ht
theorem PkTab.fr {W W' : World} {B n : Nat} {U V T : Nat → Prop} {r : Option (Mast.Mst × List Int)} {its : Value} (h : PkTab W B n U r its) (f : Fr T W W') (hT : ∀ k, k < W.heap.size → ¬ U k → B ≤ k → ¬ T k) (hV : ∀ k, k < W.heap.size → V k → U k) : PkTab W' B n V r its := by
  cases r with
  | none => exact h
  | some x =>
    obtain ⟨dt, gt, ht, e, t, b, u⟩ := h
    exact ⟨dt, gt, ht, e, t.fr f (hT _ t.tb.lt u.1 b.1) (hT _ t.lv.lt u.2.1 b.2.1) (hT _ t.dt.lt u.2.2 b.2.2), b, fun v => u.1 (hV _ t.tb.lt v), fun v => u.2.1 (hV _ t.lv.lt v), fun v => u.2.2 (hV _ t.dt.lt v)⟩
/-- what stands in memory while Pick goes on -/
structure PkSt (T : Nat → Prop) (w W : World) (d : Nat) (D : Dv) (n : Nat) (gs : List Value) (br bn : Nat) (r : Option (Mast.Mst × List Int)) (its : Value) (U : Nat → Prop) : Prop where
  dv : DevIs U W d D
  hU : ∀ k, U k → T k ∧ k < W.heap.size
  fr : Fr T w W
  ge : Box W w.heap.size 23 gs
  rb : Box W br 34 (mcs Mast.m0)
  nb : Box W bn 34 (mcs (pm r))
  u0 : ¬ U w.heap.size
  u1 : ¬ U br
  u2 : ¬ U bn
  l1 : w.heap.size ≤ br
  l2 : w.heap.size ≤ bn
  ne : br ≠ bn
  tb : PkTab W w.heap.size n U r its
section
variable {T U : Nat → Prop} {w W W' : World} {d n br bn b : Nat} {D : Dv} {gs : List Value} {r : Option (Mast.Mst × List Int)} {its : Value}
theorem PkSt.on (s : PkSt T w W d D n gs br bn r its U) (hb : Below W.heap.size W W') : PkSt T w W' d D n gs br bn r its U :=
  ⟨s.dv.below hb, fun k hk => ⟨(s.hU k hk).1, Nat.lt_of_lt_of_le (s.hU k hk).2 hb.size⟩, s.fr.trans (Fr.of_below hb), s.ge.on hb, s.rb.on hb, s.nb.on hb, s.u0, s.u1, s.u2, s.l1, s.l2, s.ne,
    s.tb.fr (T := fun _ => False) ⟨hb.os, hb.tape, hb.output, hb.size, fun k hk _ => hb.block k hk⟩ (fun _ _ _ _ h => h) (fun _ _ h => h)⟩
/-- the device was read -/
theorem PkSt.read (s : PkSt T w W d D n gs br bn r its U) (hT : ∀ k, w.heap.size ≤ k → T k) (hI : DevIs (Bt (fun k => U k ∨ W.heap.size ≤ k) b) W' d D) (hF : Fr (fun k => U k ∨ W.heap.size ≤ k) W W') :
    PkSt T w W' d D n gs br bn r its (fun k => (U k ∨ W.heap.size ≤ k) ∧ k ≠ b ∧ k < W'.heap.size) := by
  have hk : ∀ k, k < W.heap.size → ¬ U k → ¬ (U k ∨ W.heap.size ≤ k) := fun k h1 h2 h3 => by rcases h3 with h3 | h3; exact h2 h3; omega
  have hsz := s.fr.size
  refine ⟨hI.shrink fun k h1 h2 => ⟨h2.1, h2.2, h1⟩, fun k h => ⟨?_, h.2.2⟩, s.fr.trans (hF.mono fun k h1 h2 => ?_), s.ge.same (hF.same s.ge.lt (hk _ s.ge.lt s.u0)), s.rb.same (hF.same s.rb.lt (hk _ s.rb.lt s.u1)), s.nb.same (hF.same s.nb.lt (hk _ s.nb.lt s.u2)),
    fun h => hk _ s.ge.lt s.u0 h.1, fun h => hk _ s.rb.lt s.u1 h.1, fun h => hk _ s.nb.lt s.u2 h.1, s.l1, s.l2, s.ne, s.tb.fr hF (fun k h1 h2 _ => hk k h1 h2) (fun k h1 h => by rcases h.1 with h | h; exact h; omega)⟩
  · rcases h.1 with h | h
    · exact (s.hU k h).1
    · exact hT k (by omega)
  · rcases h2 with h | h
    · exact (s.hU k h).1
    · omega
/-- a newer one is taken -/
theorem PkSt.take {m : Mast.Mst} {ys : List Int} {dt gt ht : Nat} (s : PkSt T w W d D n gs br bn r its U) (hT : ∀ k, w.heap.size ≤ k → T k) (t : TbIs W dt gt ht n ys (List.replicate (Tbl.pages n) false)) (hb : (w.heap.size ≤ dt ∧ w.heap.size ≤ gt ∧ w.heap.size ≤ ht) ∧ ¬ U dt ∧ ¬ U gt ∧ ¬ U ht)
    (x : Box W' bn 34 (mcs m)) (hg : W.grownBy W' (some bn)) : PkSt T w W' d D n gs br bn (some (m, ys)) (tp dt) U := by
  have f : Fr (fun k => k = bn) W W' := Fr.of_grown hg fun k hk => by injection hk with hk; exact hk.symm
  refine ⟨s.dv.keep fun k h1 h2 => hg.block k h1 fun e => s.u2 (Option.some.inj e ▸ h2), fun k hk => ⟨(s.hU k hk).1, Nat.lt_of_lt_of_le (s.hU k hk).2 f.size⟩, s.fr.trans (f.mono fun k _ h => by rw [h]; exact hT _ s.l2), s.ge.grown hg (s.ge.ne s.nb (by decide)), s.rb.grown hg s.ne, x, s.u0, s.u1, s.u2, s.l1, s.l2, s.ne, ?_⟩
  exact ⟨dt, gt, ht, rfl, t.fr f (t.tb.ne s.nb (by decide)) (t.lv.ne s.nb (by decide)) (t.dt.ne s.nb (by decide)), hb.1, hb.2⟩
end
set_option maxRecDepth 100000 in
set_option maxHeartbeats 4000000 in
theorem ckpick_any (conv soft seq size opn : Int) (n P : Nat) {w : World} {d : Nat} {T : Nat → Prop} {D : Dv} (H : Some conv seq size) (hb : blocks seq size = (n : Int)) (hP : Tbl.pages n = P) (hPg : Geom.pages seq size = (P : Int))
    (hT : ∀ k, w.heap.size ≤ k → T k) (hO : DvOk D) (hOd : Od D) (hd : D.down = false) (hs : (P : Int) + 3 ≤ D.soft) (hI : DevIs T w d D) :
    Calls Tryz.prog 15 #[dp d, gvl conv soft seq size opn] w fun e w' => ∃ U, PkPost w w' n (pickS D n P) e U ∧ DevIs U w' d D ∧ (∀ k, U k → T k) ∧ Fr T w w' := by
  obtain ⟨mr, hmr, hszr⟩ := big_size (P := Tryz.prog) (t := 34) (s := 6) (by kernel_rfl)
  have hmr0 : ¬ mr = 0 := by omega
  have HM := Lib.hid hmr
  have LA := Lib.hid fun (W : World) (b : Nat) (x : Mast.Mst) (h : Box W b 34 (mcs x)) => big_load0 Tryz.prog b 0 (mcs x) mr (by rw [mcs_length, HM.out]) W h.range0
  have HT := Lib.hid hT
  have HSe := Lib.hid fun (low : Int) (T' : Nat → Prop) (w' : World) (hl : 0 ≤ low ∧ low ≤ 1) (hT' : ∀ k, w'.heap.size ≤ k → T' k) (hI' : DevIs T' w' d D) => cksectors_any conv soft seq size opn low P (P + 2) H hPg rfl hl hT' hO hd hs hI'
  have HWh := Lib.hid fun (low : Int) (b : Nat) (w' : World) (hx : Box w' b 43 (pgcs (regD D low (P + 2)))) => ckwhole_any conv soft seq size opn low n P (P + 2) (P + 1) b (regD D low (P + 2)) w' H hb hP rfl rfl (regD_length D low (P + 2)) (regD_64 hO low (P + 2)) (regD_oct hO hOd low (P + 2)) hx hPg
  have HPk : Hid (∀ k, pkTo D n P (k + 1) = pkF (pkTo D n P k) (whS n P (k : Int) (regD D (k : Int) (P + 2)))) := Lib.hid fun k => rfl
  have HI := Lib.hid hI
  have HP0 : Hid (pkTo D n P 0 = none) := Lib.hid rfl
  have HPe : Hid (pickS D n P = pkTo D n P 2) := Lib.hid rfl
  generalize pickS D n P = RR at *
  generalize pkTo D n P = pk at *
  clear hmr H hb hP hPg hT hO hOd hd hs hI
  go_enter Tryz.func15, Tryz.ntmps15
  go_wp2_with (first
    | ((with_reducible refine wpList_box_box _ (o := ⟨some 3, .box _ _, _, _, _, _⟩) rfl _ _ rfl (gcl conv soft seq size opn) rfl ?_); intro w1 x1 hB1 hs1; clear hs1)
    | ((with_reducible refine wpList_ms_alloc (o := ⟨some 4, .alloc _, _, _, _, _⟩) rfl rfl ?_); intro w2 x2 hB2 hs2; clear hs2)
    | ((with_reducible refine wpList_ms_alloc (o := ⟨some 7, .alloc _, _, _, _, _⟩) rfl rfl ?_); intro w3 x3 hB3 hs3; clear hs3; have S3 := Lib.hid (show PkSt T w w3 d D n (gcl conv soft seq size opn) w1.heap.size w2.heap.size (pk 0) (.pointer none) (fun k => T k ∧ k < w.heap.size) from (by
        have K3 : Below w.heap.size w w3 := bthen (bthen hB1 hB2) hB3
        have e1 := hB1.size
        have e2 := hB2.size
        have e3 := hB3.size
        refine ⟨(HI.out.shrink (U := fun k => T k ∧ k < w.heap.size) fun k h1 h2 => ⟨h2, h1⟩).below K3, fun k hk => ⟨hk.1, by omega⟩, Fr.of_below K3, (x1.on hB2).on hB3, x2.on hB3, by rw [HP0.out]; exact x3, fun h => by omega, fun h => by omega, fun h => by omega, by omega, by omega, by have := x2.lt; omega, by rw [HP0.out]; rfl⟩)); clear x1 hB1 x2 hB2 x3 hB3; generalize w1.heap.size = br at *; generalize w2.heap.size = bn at *)
    | fail)
  go_wp2
  go_loopw [8, 15] (fun it i wr => ∃ (k : Nat) (U : Nat → Prop), k ≤ 2 ∧ i = .int .i64 k ∧ PkSt T w wr d D n (gcl conv soft seq size opn) br bn (pk k) it U) (fun _ i _ => 2 - (intOf i).toNat)
  case atStart => exact ⟨0, _, by omega, rfl, S3.out⟩
  case round =>
    clear S3 HP0 HI
    obtain ⟨k, U, hk, rfl, hst⟩ := hrel
    have HS := Lib.hid hst
    clear hst
    by_cases hlt : k < 2
    · have hki : (k : Int) < 2 := by omega
      have HCall := Lib.hid (HSe.out (k : Int) (fun j => U j ∨ wr.heap.size ≤ j) wr ⟨by omega, by omega⟩ (fun j hj => .inr hj) (HS.out.dv.shrink fun j _ h => .inl h))
      have HPn := Lib.hid (HPk.out k)
      have c0 : wr.cell? ⟨w.heap.size, 0, none⟩ = some (.int .i64 conv) := HS.out.ge.cell 0
      have c1 : wr.cell? ⟨w.heap.size, 1, none⟩ = some (.int .i64 soft) := HS.out.ge.cell 1
      have c2 : wr.cell? ⟨w.heap.size, 2, none⟩ = some (.int .i64 seq) := HS.out.ge.cell 2
      have c3 : wr.cell? ⟨w.heap.size, 3, none⟩ = some (.int .i64 size) := HS.out.ge.cell 3
      have c4 : wr.cell? ⟨w.heap.size, 4, none⟩ = some (.int .i64 opn) := HS.out.ge.cell 4
      go_wp2_with fail
      refine HCall.out.mono ?_
      rintro e w4 ⟨b, rfl, hx, _, hI4, hF4⟩
      have S4 := Lib.hid (HS.out.read HT.out hI4 hF4)
      have X4 := Lib.hid hx
      clear hx hI4 hF4 HCall HS c0 c1 c2 c3 c4
      have c0 : w4.cell? ⟨w.heap.size, 0, none⟩ = some (.int .i64 conv) := S4.out.ge.cell 0
      have c1 : w4.cell? ⟨w.heap.size, 1, none⟩ = some (.int .i64 soft) := S4.out.ge.cell 1
      have c2 : w4.cell? ⟨w.heap.size, 2, none⟩ = some (.int .i64 seq) := S4.out.ge.cell 2
      have c3 : w4.cell? ⟨w.heap.size, 3, none⟩ = some (.int .i64 size) := S4.out.ge.cell 3
      have c4 : w4.cell? ⟨w.heap.size, 4, none⟩ = some (.int .i64 opn) := S4.out.ge.cell 4
      go_wp2_with fail
      refine (HWh.out (k : Int) b w4 X4.out).mono ?_
      rintro e w5 ⟨hpost, hb5⟩
      have S5 := Lib.hid (S4.out.on hb5)
      have HSz := Lib.hid (And.intro S4.out.fr.size hb5.size)
      have HU4 : Hid (∀ j, (fun j => (U j ∨ wr.heap.size ≤ j) ∧ j ≠ b ∧ j < w4.heap.size) j → j < w4.heap.size) := Lib.hid fun j h => h.2.2
      clear hb5 S4 X4 c0 c1 c2 c3 c4
      generalize (fun j => (U j ∨ wr.heap.size ≤ j) ∧ j ≠ b ∧ j < w4.heap.size) = U4 at S5 HU4
      cases hR : whS n P (k : Int) (regD D (k : Int) (P + 2)) with
      | none =>
        rw [hR] at hpost HPn
        unfold WhPost at hpost
        subst hpost
        have HPn2 := Lib.hid (HPn.out.trans (pkF_none _))
        clear hR HPn
        go_wp2_with (first
        | ((with_reducible refine wpList_ms_alloc (o := ⟨some 12, .alloc _, _, _, _, _⟩) rfl rfl ?_); intro w6 x6 hB6 hs6; clear hs6)
        | ((with_reducible refine wpList_ms_store (o := ⟨none, .store _ (.tmp 12) _, _, _, _, _⟩) rfl _ _ rfl w5.heap.size Mast.m0 Mast.m0 rfl rfl x6 ?_); go_loud (intro w7 x7 hg7 _; have K7 := below_stored hB6 hg7 hB6.size (Nat.le_refl _); have S7 := Lib.hid (S5.out.on K7); clear x6 hB6 x7 hg7 K7; generalize w5.heap.size = bv at *))
        | fail)
        go_roundw
        case rel => exact ⟨k + 1, U4, by omega, by go_num, by rw [HPn2.out]; exact S7.out⟩
        case measure => simp [intOf]; omega
      | some x =>
        obtain ⟨m, ys⟩ := x
        rw [hR] at hpost HPn
        unfold WhPost at hpost
        obtain ⟨dt, gt, ht, rfl, htb, q1, q2, q3⟩ := hpost
        have HTb := Lib.hid (And.intro htb (And.intro q1 (And.intro q2 q3)))
        clear hR htb q1 q2 q3
        by_cases hgen : (pm (pk k)).gen < m.gen
        · have HPn2 := Lib.hid (HPn.out.trans (pkF_yes hgen))
          clear HPn
          generalize hpm : pm (pk k) = pmk at *
          have HPm := Lib.hid hpm
          clear hpm
          go_wp2_with (first
        | ((with_reducible refine wpList_ms_alloc (o := ⟨some 12, .alloc _, _, _, _, _⟩) rfl rfl ?_); intro w6 x6 hB6 hs6; clear hs6)
        | ((with_reducible refine wpList_ms_store (o := ⟨none, .store _ (.tmp 12) _, _, _, _, _⟩) rfl _ _ rfl w5.heap.size m Mast.m0 rfl rfl x6 ?_); go_loud (intro w7 x7 hg7 _; have K7 := below_stored hB6 hg7 hB6.size (Nat.le_refl _); have S7 := Lib.hid (S5.out.on K7); have hldm := LA.out _ _ _ x7; have T7 := Lib.hid (HTb.out.1.on K7); have cm : w7.cell? ⟨w5.heap.size, 1, none⟩ = some (.int .i64 m.gen) := x7.cell 1; have cn : w7.cell? ⟨bn, 1, none⟩ = some (.int .i64 pmk.gen) := by { have h := S7.out.nb.cell 1; rw [HPm.out] at h; exact h }; have XN := Lib.hid S7.out.nb; rw [HPm.out] at XN; clear x6 hB6 x7 hg7 K7; generalize w5.heap.size = bv at *))
        | ((with_reducible refine wpList_ms_store (o := ⟨none, .store _ (.tmp 7) _, _, _, _, _⟩) rfl _ _ rfl bn m pmk rfl rfl XN.out ?_); go_loud (intro w8 x8 hg8 _; have S8 := Lib.hid (S7.out.take HT.out T7.out (by have h1 := HTb.out.2; have h2 := HSz.out; exact ⟨by omega, fun h => by have := HU4.out _ h; omega, fun h => by have := HU4.out _ h; omega, fun h => by have := HU4.out _ h; omega⟩) x8 hg8); clear x8 hg8 hldm cm cn))
        | fail)
          go_roundw
          case rel => exact ⟨k + 1, U4, by omega, by go_num, by rw [HPn2.out]; exact S8.out⟩
          case measure => simp [intOf]; omega
        · have HPn2 := Lib.hid (HPn.out.trans (pkF_no hgen))
          clear HPn
          generalize hpm : pm (pk k) = pmk at *
          have HPm := Lib.hid hpm
          clear hpm
          go_wp2_with (first
        | ((with_reducible refine wpList_ms_alloc (o := ⟨some 12, .alloc _, _, _, _, _⟩) rfl rfl ?_); intro w6 x6 hB6 hs6; clear hs6)
        | ((with_reducible refine wpList_ms_store (o := ⟨none, .store _ (.tmp 12) _, _, _, _, _⟩) rfl _ _ rfl w5.heap.size m Mast.m0 rfl rfl x6 ?_); go_loud (intro w7 x7 hg7 _; have K7 := below_stored hB6 hg7 hB6.size (Nat.le_refl _); have S7 := Lib.hid (S5.out.on K7); have cm : w7.cell? ⟨w5.heap.size, 1, none⟩ = some (.int .i64 m.gen) := x7.cell 1; have cn : w7.cell? ⟨bn, 1, none⟩ = some (.int .i64 pmk.gen) := by { have h := S7.out.nb.cell 1; rw [HPm.out] at h; exact h }; clear x6 hB6 x7 hg7 K7; generalize w5.heap.size = bv at *))
        | fail)
          go_roundw
          case rel => exact ⟨k + 1, U4, by omega, by go_num, by rw [HPn2.out]; exact S7.out⟩
          case measure => simp [intOf]; omega
    · obtain rfl : k = 2 := by omega
      have HB := Lib.hid HS.out.rb
      have HL1 := Lib.hid HS.out.l1
      cases hR : pk 2 with
      | none =>
        rw [hR] at HS HPe
        obtain rfl : u8 = .pointer none := HS.out.tb
        clear hR
        go_wp2_with (first
          | (with_reducible refine wpList_ms_zero (o := ⟨some 50, .build _ _, _, _, _, _⟩) rfl rfl ?_)
          | ((with_reducible refine wpList_ms_store (o := ⟨none, .store _ (.tmp 4) _, _, _, _, _⟩) rfl _ _ rfl br Mast.m0 Mast.m0 rfl rfl HB.out ?_); go_loud (intro w9 hb9 hg9 _; have hldF := LA.out _ _ _ hb9; have HD9 := Lib.hid (HS.out.dv.keep (W' := w9) fun k h1 h2 => hg9.block k h1 fun e => HS.out.u1 (Option.some.inj e ▸ h2)); have HF9 := Lib.hid (HS.out.fr.trans (Fr.of_grown hg9 fun k hk => by injection hk with hk; exact hk ▸ HT.out _ HL1.out)); clear hb9 hg9))
          | fail)
        generalize hR9 : mcs Mast.m0 = R9 at hldF ⊢
        exact bodyPost_ret (v := .tuple #[.agg R9.toArray, .pointer none, .int .i64 15]) (by simp [results, Tryz.results15, go_sem, hszr, hldF]) rfl ⟨U, by rw [HPe.out, ← hR9]; rfl, HD9.out, fun k h => (HS.out.hU k h).1, HF9.out⟩
      | some x =>
        rw [hR] at HS HPe
        obtain ⟨dt, gt, ht, rfl, htb, hbd, hu⟩ := HS.out.tb
        have HTb := Lib.hid (And.intro htb (And.intro hbd hu))
        have XN : Hid (Box wr bn 34 (mcs x.1)) := Lib.hid HS.out.nb
        have hldm := LA.out _ _ _ XN.out
        clear hR htb hbd hu
        go_wp2_with (first
          | ((with_reducible refine wpList_ms_store (o := ⟨none, .store _ (.tmp 4) _, _, _, _, _⟩) rfl _ _ rfl br x.1 Mast.m0 rfl rfl HB.out ?_); go_loud (intro w9 hb9 hg9 _; have hldF := LA.out _ _ _ hb9; have HD9 := Lib.hid (HS.out.dv.keep (W' := w9) fun k h1 h2 => hg9.block k h1 fun e => HS.out.u1 (Option.some.inj e ▸ h2)); have HF9 := Lib.hid (HS.out.fr.trans (Fr.of_grown hg9 fun k hk => by injection hk with hk; exact hk ▸ HT.out _ HL1.out)); have HT9 := Lib.hid (HTb.out.1.fr (Fr.of_grown (T := fun k => k = br) hg9 fun k hk => by injection hk with hk; exact hk.symm) (HTb.out.1.tb.ne HB.out (by decide)) (HTb.out.1.lv.ne HB.out (by decide)) (HTb.out.1.dt.ne HB.out (by decide))); clear hb9 hg9 hldm))
          | fail)
        generalize hR9 : mcs x.1 = R9 at hldF ⊢
        exact bodyPost_ret (v := .tuple #[.agg R9.toArray, tp dt, .int .i64 0]) (by simp [results, Tryz.results15, go_sem, hszr, hldF]) rfl ⟨U, by rw [HPe.out]; exact ⟨dt, gt, ht, by rw [hR9], HT9.out, HTb.out.2⟩, HD9.out, fun k h => (HS.out.hU k h).1, HF9.out⟩
end Go.Proofs.YtgnpohkippegpaaGreat

/-
  Package ckpt: Write.
-/
namespace Go.Proofs.YtgnpohkippegpaaGreat
open Go.RowKit Geom Zone Dev Ckp Word
set_option linter.unusedVariables false

namespace Ckp
/-- the writes of a checkpoint's sectors -/
def wrl (m : Mast.Mst) (ys : List Int) (P : Nat) : List Wr := Dev.run (plZ (m.gen % 2)) (plO (m.gen % 2)) (secs m ys P)
/-- a checkpoint is written -/
def ckW (D : Dv) (m : Mast.Mst) (ys : List Int) (P : Nat) : Int × Dv :=
  if headB m (P : Int) = true then
    (if (flushD D).1 = 0 then
      (if (wrs (flushD D).2 (wrl m ys P)).1 = 0 then flushD (wrs (flushD D).2 (wrl m ys P)).2 else wrs (flushD D).2 (wrl m ys P))
    else flushD D)
  else (1, D)
theorem wrl_length (m : Mast.Mst) (ys : List Int) (P : Nat) : (wrl m ys P).length = P + 2 := by unfold wrl; rw [Dev.run_length, secs_length]
theorem wrl_at {m : Mast.Mst} {ys : List Int} {P k : Nat} {p : List Int} (h : (secs m ys P)[k]? = some p) : (wrl m ys P)[k]? = some (plZ (m.gen % 2), plO (m.gen % 2) + (k : Int), p) := by
  unfold wrl
  rw [Dev.run_get, h]
  rfl
theorem secs_64 {m : Mast.Mst} {ys : List Int} {P : Nat} (hy : ys.length = 10 * P) : P64 (secs m ys P) := by
  intro p hp
  unfold secs at hp
  rcases List.mem_cons.1 hp with rfl | hp
  · exact Mast.layL_length _
  · rcases List.mem_append.1 hp with hp | hp
    · exact lvs_64 hy p hp
    · rw [List.mem_singleton.1 hp]
      exact Mast.layL_length _
theorem wrs_cons {D : Dv} {c : Wr} {l : List Wr} {k : Nat} (h : l[k]? = some c) : wrs D (l.drop k) = if (writeD D c).1 = 0 then wrs (writeD D c).2 (l.drop (k + 1)) else writeD D c := by
  obtain ⟨hk, rfl⟩ := List.getElem?_eq_some_iff.1 h
  rw [List.drop_eq_getElem_cons hk]
  rfl
end Ckp
/-- what stands in memory while a checkpoint is written -/
structure WrSt (T : Nat → Prop) (w W : World) (d : Nat) (D : Dv) (bm br B N c : Nat) (m : Mast.Mst) (ls : List (List Int)) : Prop where
  dv : DevIs (Bt (Bt T bm) br) W d D
  fr : Fr T w W
  mb : Box W bm 34 (mcs m)
  row : W.ownsRow B 43 64 (.slice (some ⟨br, 0, none⟩) N c) N (pgcs ls)
section
variable {T : Nat → Prop} {w W W' : World} {d bm br B N c : Nat} {D D' : Dv} {m : Mast.Mst} {ls : List (List Int)}
theorem WrSt.on (s : WrSt T w W d D bm br B N c m ls) (hb : Below W.heap.size W W') : WrSt T w W' d D bm br B N c m ls := ⟨s.dv.below hb, s.fr.trans (Fr.of_below hb), s.mb.on hb, own_below s.row hb⟩
theorem WrSt.put (s : WrSt T w W d D bm br B N c m ls) (hI : DevIs (Bt (Bt T bm) br) W' d D') (hF : Fr (Bt (Bt T bm) br) W W') : WrSt T w W' d D' bm br B N c m ls :=
  ⟨hI, s.fr.trans (hF.mono fun k _ h => h.1.1), s.mb.same (hF.same s.mb.lt fun h => h.1.2 rfl), own_same s.row fun g hg => hF.same (s.row.lt g hg).2 fun h => h.2 (by injection hg with hg; exact hg.symm)⟩
theorem WrSt.hT (s : WrSt T w W d D bm br B N c m ls) (hT : ∀ k, w.heap.size ≤ k → T k) : ∀ k, W.heap.size ≤ k → Bt (Bt T bm) br k := fun k hk =>
  ⟨⟨hT k (Nat.le_trans s.fr.size hk), fun e => by have := s.mb.lt; omega⟩, fun e => by have := (s.row.lt br rfl).2; omega⟩
end
set_option maxRecDepth 100000 in
set_option maxHeartbeats 4000000 in
theorem ckwrite_any (conv soft seq size opn : Int) (n P k0 : Nat) {w : World} {d tt tg th : Nat} {T : Nat → Prop} {D : Dv} {ys : List Int} {ds : List Bool} (m : Mast.Mst) (H : Some conv seq size) (hP : Tbl.pages n = P) (hPg : Geom.pages seq size = (P : Int))
    (hT : ∀ k, w.heap.size ≤ k → T k) (hN : DvN k0 D) (hk : k0 + P + 10 ≤ 500) (hI : DevIs T w d D) (t : TbIs w tt tg th n ys ds) (hnar : Nar ys) (hin : Mast.In m) (hap : ¬ T tt ∧ ¬ T tg ∧ ¬ T th) :
    Calls Tryz.prog 7 #[dp d, gvl conv soft seq size opn, .agg (mcs m).toArray, tp tt] w fun e w' => e = .returned (.int .i64 (ckW D m ys P).1) ∧ DevIs T w' d (ckW D m ys P).2 ∧ Fr T w w' := by
  obtain ⟨m6, hm6, hszp⟩ := big_size (P := Tryz.prog) (t := 43) (s := 64) (by kernel_rfl)
  obtain ⟨mr, hmr, hszr⟩ := big_size (P := Tryz.prog) (t := 34) (s := 6) (by kernel_rfl)
  have hm60 : ¬ m6 = 0 := by omega
  have hmr0 : ¬ mr = 0 := by omega
  have HM := Lib.hid (And.intro hm6 hmr)
  have LA := Lib.hid fun (W : World) (b : Nat) (x : Mast.Mst) (h : Box W b 34 (mcs x)) => big_load0 Tryz.prog b 0 (mcs x) mr (by rw [mcs_length, HM.out.2]) W h.range0
  have HT := Lib.hid hT
  have HI := Lib.hid hI
  have HN := Lib.hid hN
  have HTb := Lib.hid (And.intro t hap)
  have HNr := Lib.hid (And.intro hnar hin)
  have HHd := Lib.hid fun w' => ishead_any conv soft seq size opn m w' H
  rw [hPg] at HHd
  have hp410 : P ≤ 410 := by rw [← hP]; exact pages_le t.hn
  have HS64 : Hid (P64 (secs m ys P)) := Lib.hid (secs_64 (by rw [t.hy, hP]))
  have HPn := Lib.hid hP
  have HCk : Hid (ckW D m ys P = if headB m (P : Int) = true then
    (if (flushD D).1 = 0 then
      (if (wrs (flushD D).2 (wrl m ys P)).1 = 0 then flushD (wrs (flushD D).2 (wrl m ys P)).2 else wrs (flushD D).2 (wrl m ys P))
    else flushD D)
  else (1, D)) := Lib.hid rfl
  generalize hck : ckW D m ys P = ck at *
  clear hck
  generalize hhb : headB m (P : Int) = hb at *
  have HHb := Lib.hid hhb
  clear hhb hm6 hmr hT hI hN t hap hnar hin H hPg hP
  go_enter Tryz.func7, Tryz.ntmps7
  go_wp2_with (first
    | ((with_reducible refine wpList_box_box _ (o := ⟨some 5, .box _ _, _, _, _, _⟩) rfl _ _ rfl (gcl conv soft seq size opn) rfl ?_); intro w1 x1 hB1 hs1; clear hs1)
    | ((with_reducible refine wpList_ms_box (o := ⟨some 6, .box _ _, _, _, _, _⟩) rfl _ rfl m rfl ?_); intro w2 x2 hB2 hs2; clear hs2; have K2 := Lib.hid (bthen hB1 hB2); have XG := x1.on hB2; have X2 := Lib.hid x2; have HLe := Lib.hid hB1.size; have hldm := LA.out _ _ _ x2; have c0 : w2.cell? ⟨w.heap.size, 0, none⟩ = some (.int .i64 conv) := XG.cell 0; have c1 : w2.cell? ⟨w.heap.size, 1, none⟩ = some (.int .i64 soft) := XG.cell 1; have c2 : w2.cell? ⟨w.heap.size, 2, none⟩ = some (.int .i64 seq) := XG.cell 2; have c3 : w2.cell? ⟨w.heap.size, 3, none⟩ = some (.int .i64 size) := XG.cell 3; have c4 : w2.cell? ⟨w.heap.size, 4, none⟩ = some (.int .i64 opn) := XG.cell 4; clear x1 x2 hB1 hB2 XG; generalize w1.heap.size = bm at *)
    | fail)
  refine (HHd.out w2).mono ?_
  rintro e w3 ⟨rfl, hb3⟩
  have K3 := Lib.hid (bthen K2.out hb3)
  have X3 := Lib.hid (X2.out.on hb3)
  clear hb3 K2 X2 hldm c0 c1 c2 c3 c4
  cases hb with
  | false =>
    have HI3 := Lib.hid (HI.out.below K3.out)
    have HF3 := Lib.hid (Fr.of_below (T := T) K3.out)
    rw [if_neg (by simp)] at HCk
    go_wp2
    go_ret
    exact ⟨by rw [HCk.out]; rfl, by rw [HCk.out]; exact HI3.out, HF3.out⟩
  | true =>
    rw [if_pos rfl] at HCk
    have HOk : Hid (Mast.Ok m) := Lib.hid (of_decide_eq_true (by have h := HHb.out; unfold headB at h; simp only [Bool.and_eq_true] at h; exact h.1))
    have hI3 : DevIs (Bt T bm) w3 d D := (HI.out.shrink (U := Bt T bm) fun k h1 h2 => ⟨h2, fun e => by have := HLe.out; omega⟩).below K3.out
    have hT3 : ∀ k, w3.heap.size ≤ k → Bt T bm k := fun k hk => ⟨HT.out k (Nat.le_trans K3.out.size hk), fun e => by have := X3.out.lt; omega⟩
    have HFl := Lib.hid (flush_any (T := Bt T bm) hT3 HN.out.ok hI3)
    have HN1 := Lib.hid (flush_ok HN.out (by omega))
    clear hI3 hT3 HI
    go_wp2_with fail
    refine HFl.out.mono ?_
    rintro e w4 ⟨rfl, hI4, hF4⟩
    have S4 : Hid (DevIs (Bt T bm) w4 d (flushD D).2 ∧ Fr T w w4 ∧ Box w4 bm 34 (mcs m)) := Lib.hid ⟨hI4, (Fr.of_below K3.out).trans (hF4.mono fun k _ h => h.1), X3.out.same (hF4.same X3.out.lt fun h => h.2 rfl)⟩
    have T4 := Lib.hid ((HTb.out.1.on K3.out).fr hF4 (fun h => HTb.out.2.1 h.1) (fun h => HTb.out.2.2.1 h.1) (fun h => HTb.out.2.2.2 h.1))
    clear hI4 hF4 HFl X3 HTb K3
    by_cases hz : (flushD D).1 = 0
    rotate_left
    · rw [if_neg hz] at HCk
      have hz2 : ((flushD D).1 != 0) = true := by simpa using hz
      clear hz
      generalize flushD D = fd at *
      go_wp2
      go_ret
      exact ⟨by rw [HCk.out]; rfl, by rw [HCk.out]; exact S4.out.1.shrink fun k _ h => h.1, S4.out.2.1⟩
    · rw [if_pos hz] at HCk
      rw [hz]
      clear hz
      generalize hfd : (flushD D).2 = D1 at *
      clear hfd
      have hldm := LA.out _ _ _ S4.out.2.2
      go_wp2_with fail
      refine (cklaid_any m w4 HNr.out.2 HOk.out T4.out HNr.out.1).mono ?_
      rw [HPn.out]
      rintro e w5 ⟨V, rfl, hrow, hb5⟩
      obtain ⟨br, cr, rfl, hbr, hbr2⟩ := hrow.form (by omega)
      have S5 := Lib.hid (show WrSt T w w5 d D1 bm br w4.heap.size (P + 2) cr m (secs m ys P) from ⟨(S4.out.1.shrink fun k h1 h2 => ⟨h2, fun e => by omega⟩).below hb5, S4.out.2.1.trans (Fr.of_below hb5), S4.out.2.2.on hb5, hrow⟩)
      clear hrow hb5 hbr hbr2 S4 T4 hldm HN HHd
      go_wp2
      have HLn := Lib.hid (wrl_length m ys P)
      have HAt := Lib.hid fun (k : Nat) (p : List Int) (h : (secs m ys P)[k]? = some p) => wrl_at h
      have HSl := Lib.hid (secs_length m ys P)
      have hg1 := HOk.out.1.1
      generalize wrl m ys P = wl at *
      generalize secs m ys P = sl at *
      go_loopw [26] (fun i wr => ∃ (k : Nat) (Dk : Dv), k ≤ P + 2 ∧ i = .int .i64 k ∧ DvN (k0 + 1 + k) Dk ∧ wrs D1 wl = wrs Dk (wl.drop k) ∧ WrSt T w wr d Dk bm br w4.heap.size (P + 2) cr m sl) (fun i _ => P + 2 - (intOf i).toNat)
      case atStart => exact ⟨0, D1, by omega, rfl, HN1.out, rfl, S5.out⟩
      case round =>
        clear S5 HN1
        obtain ⟨k, Dk, hkP, rfl, hN, hwr, hst⟩ := hrel
        have HS := Lib.hid (And.intro hN (And.intro hwr hst))
        clear hN hwr hst
        by_cases hlt : k < P + 2
        · obtain ⟨p, hp⟩ : ∃ p, sl[k]? = some p := ⟨sl[k]'(by rw [HSl.out]; exact hlt), List.getElem?_eq_getElem _⟩
          have HPp := Lib.hid (HS64.out p (List.mem_of_getElem? hp))
          have HWk := Lib.hid (wrs_cons (D := Dk) (HAt.out k p hp))
          have hki : (k : Int) < ((P + 2 : Nat) : Int) := by omega
          obtain ⟨ad, hadd, hld⟩ := big_elem Tryz.prog (w := wr) (m := m6) (Rd.own HS.out.2.2.row) (fun y hy => (HS64.out.bs y hy).trans HM.out.1.symm) (by omega) k p hp
          injection hadd with hadd
          subst hadd
          rw [Addr.add_mid, Nat.zero_add] at hld
          clear hp
          go_wp2_with (first
            | ((with_reducible refine wpList_pg_alloc (o := ⟨some 11, .alloc _, _, _, _, _⟩) rfl rfl ?_); intro w6 x6 hB6 hs6; clear hs6)
            | ((with_reducible refine wpList_pg_store (o := ⟨none, .store _ (.tmp 11) _, _, _, _, _⟩) rfl _ _ rfl wr.heap.size p pg0 HPp.out rfl rfl rfl x6 ?_); go_loud (intro w7 x7 hg7 _; have K7 := below_stored hB6 hg7 hB6.size (Nat.le_refl _); have S7 := Lib.hid (HS.out.2.2.on K7); have X7 := Lib.hid x7; have HNk := Lib.hid (And.intro HS.out.1 HS.out.2.1); clear hB6 x6 hg7 K7 hld HS x7; generalize wr.heap.size = bp at *))
            | fail)
          refine wp_region_class_tail (fun w' => Below w7.heap.size w7 w') 7 (by kernel_rfl) (by kernel_rfl) (Below.refl _ _).drew ?_
          intro X hX f hf hg
          have lg : ∀ x, (f x).cell? ⟨bm, 1, none⟩ = some (.int .i64 m.gen) := fun x => (S7.out.on (hf x)).mb.cell 1
          have lp := fun x => big_load0 Tryz.prog bp 0 (bs p) m6 (by rw [bs_length, HPp.out, HM.out.1]) (f x) (X7.out.on (hf x)).range0
          have HPl := Lib.hid fun w' => ckplace_any (m.gen % 2) (k : Int) w' (by omega) (by omega)
          have Hf := Lib.hid hf
          have Hg := Lib.hid hg
          clear hf hg
          try simp only [List.take_succ_cons, List.take_zero, List.drop_succ_cons, List.drop_zero, Act.put]
          repeat (go_big_quiet_step ((go_at_call 24; with_reducible exact calls_class (HPl.out _) (fun _ hb => Hg.out _ (bthen (Hf.out _) hb)))))
          refine wpQuiet_nil ?_
          rintro _ ⟨x, rfl⟩
          have S8 := Lib.hid (S7.out.on (Hf.out x))
          clear lg lp Hf Hg hX S7
          generalize f x = w8 at S8 ⊢
          have HWr := Lib.hid (write_any (T := Bt (Bt T bm) br) (plZ (m.gen % 2), plO (m.gen % 2) + (k : Int), p) HPp.out (by have h1 := plZ_in (m.gen % 2); have h2 := plO_in (m.gen % 2); exact ⟨w64 (by show _ ≤ plZ (m.gen % 2); omega) (by show plZ (m.gen % 2) ≤ _; omega), w64 (by show _ ≤ plO (m.gen % 2) + (k : Int); omega) (by show plO (m.gen % 2) + (k : Int) ≤ _; omega)⟩) (S8.out.hT HT.out) HNk.out.1.ok (by have := HNk.out.1.c; omega) S8.out.dv)
          have HN2 := Lib.hid (write_ok (plZ (m.gen % 2), plO (m.gen % 2) + (k : Int), p) HPp.out HNk.out.1 (by omega))
          go_wp2_with fail
          refine HWr.out.mono ?_
          rintro e w9 ⟨rfl, hI9, hF9⟩
          have S9 := Lib.hid (S8.out.put hI9 hF9)
          clear hI9 hF9 HWr S8
          by_cases hz : (writeD Dk (plZ (m.gen % 2), plO (m.gen % 2) + (k : Int), p)).1 = 0
          · have HW2 := Lib.hid (HNk.out.2.trans (HWk.out.trans (if_pos hz)))
            rw [hz]
            clear hz HWk HNk
            generalize (writeD Dk (plZ (m.gen % 2), plO (m.gen % 2) + (k : Int), p)).2 = D9 at *
            go_wp2
            go_roundw
            case rel => exact ⟨k + 1, D9, by omega, by go_num, HN2.out, HW2.out, S9.out⟩
            case measure => simp [intOf]; omega
          · have HW2 := Lib.hid (HNk.out.2.trans (HWk.out.trans (if_neg hz)))
            have hz2 : ((writeD Dk (plZ (m.gen % 2), plO (m.gen % 2) + (k : Int), p)).1 != 0) = true := by simpa using hz
            rw [HW2.out, if_neg hz] at HCk
            clear hz HWk HNk HN2 HW2
            generalize writeD Dk (plZ (m.gen % 2), plO (m.gen % 2) + (k : Int), p) = r9 at *
            go_wp2
            go_ret
            exact ⟨by rw [HCk.out]; rfl, by rw [HCk.out]; exact S9.out.dv.shrink fun k _ h => h.1.1, S9.out.fr⟩
        · obtain rfl : k = P + 2 := by omega
          rw [HS.out.2.1, List.drop_eq_nil_of_le (by rw [HLn.out]; exact Nat.le_refl _)] at HCk
          have HC2 : Hid (ck = flushD Dk) := Lib.hid (HCk.out.trans (if_pos rfl))
          have HFl := Lib.hid (flush_any (T := Bt (Bt T bm) br) (HS.out.2.2.hT HT.out) HS.out.1.ok HS.out.2.2.dv)
          clear HCk
          generalize flushD Dk = r9 at *
          go_wp2_with fail
          refine HFl.out.mono ?_
          rintro e w9 ⟨rfl, hI9, hF9⟩
          have S9 := Lib.hid (HS.out.2.2.put hI9 hF9)
          clear hI9 hF9 HFl HS
          go_wp2
          go_ret
          exact ⟨by rw [HC2.out]; rfl, by rw [HC2.out]; exact S9.out.dv.shrink fun k _ h => h.1.1, S9.out.fr⟩
end Go.Proofs.YtgnpohkippegpaaGreat

/-
  Layer 13's answers: Head, Little, Table.
-/
namespace Go.Proofs.YtgnpohkippegpaaGreat
open Go.RowKit Geom Zone Dev Ckp
set_option linter.unusedVariables false

namespace Ckp
open Tbl
/-- a checkpoint's head -/
abbrev hdM (gen epoch seq P : Int) : Mast.Mst := ⟨false, gen, epoch, seq, P, 0⟩
def littleC (conv soft seq size opn : Int) : Bool := Geom.okB conv soft seq size opn && decide (conv + seq ≤ 14) && decide (size ≤ 24) && decide (soft ≤ 60)
/-- 32-bit numbers in cells -/
abbrev u32s (xs : List Int) : List Value := xs.map (Value.int .u32)
/-- a table of these places: as many as there are blocks -/
def tabY (n : Nat) (xs : List Int) : List Int := xs.take n ++ List.replicate (10 * Tbl.pages n - (xs.take n).length) 0
theorem tabY_length (n : Nat) (xs : List Int) : (tabY n xs).length = 10 * Tbl.pages n := by
  have := pages_up n
  simp [tabY]
  omega
theorem tabY_nar {n : Nat} {xs : List Int} (h : ∀ x ∈ xs, 0 ≤ x ∧ x < 4294967296) : ∀ y ∈ tabY n xs, 0 ≤ y ∧ y < 4294967296 := fun y hy => by
  rcases List.mem_append.1 hy with h1 | h1
  · exact h y (List.mem_of_mem_take h1)
  · rw [List.eq_of_mem_replicate h1]; omega
/-- the first k places set -/
theorem tabY_set {n k : Nat} {xs : List Int} {x : Int} (hk : k < n) (hx : xs[k]? = some x) : putY n (tabY n (xs.take k)) k x = tabY n (xs.take (k + 1)) := by
  obtain ⟨hkl, rfl⟩ := List.getElem?_eq_some_iff.1 hx
  have hp := pages_up n
  have e1 : (xs.take k).take n = xs.take k := List.take_of_length_le (by simp; omega)
  have e2 : (xs.take (k + 1)).take n = xs.take (k + 1) := List.take_of_length_le (by simp; omega)
  have e3 : 10 * Tbl.pages n - (xs.take k).length = (10 * Tbl.pages n - (xs.take (k + 1)).length) + 1 := by simp; omega
  rw [putY_nat hk]
  unfold tabY
  rw [e1, e2, e3, List.replicate_succ, List.take_succ_eq_append_getElem hkl, List.append_assoc, List.set_append_right _ _ (by simp; omega)]
  have e4 : k - (xs.take k).length = 0 := by simp; omega
  rw [e4]
  rfl
theorem tabY_nil (n : Nat) : tabY n [] = List.replicate (10 * Tbl.pages n) 0 := by simp [tabY]
end Ckp
theorem run_build_mast4 (w : World) (gen epoch seq P : Int) :
    (Instr.build 34 #[(1, .int .i64 gen), (2, .int .i64 epoch), (3, .int .i64 seq), (4, .int .i64 P)]).run Tryz.prog w = .ok (.agg (mcs (hdM gen epoch seq P)).toArray) w := by
  have hp := mast_places w
  simp only [Program.fieldsOf, Tryz.underlying34] at hp
  unfold Instr.build
  simp only [Sem.run_bind, zero_mast w, Result.andThen, run_underlying Tryz.underlying34, hp]
  have e : Instr.fill (fun x => #[((0, 1) : Nat × Nat), (1, 1), (2, 1), (3, 1), (4, 1), (5, 1)][x]?) (Value.agg (mcs Mast.m0).toArray).cells [(1, .int .i64 gen), (2, .int .i64 epoch), (3, .int .i64 seq), (4, .int .i64 P)] = some (mcs (hdM gen epoch seq P)).toArray := by
    refine (fill_one _ [_] _ _ _ rfl 1 1 _ rfl rfl).trans ?_
    refine (fill_one _ [_, _] _ _ _ rfl 2 2 _ rfl rfl).trans ?_
    refine (fill_one _ [_, _, _] _ _ _ rfl 3 3 _ rfl rfl).trans ?_
    exact (fill_one _ [_, _, _, _] _ _ _ rfl 4 4 _ rfl rfl).trans rfl
  rw [e]
  rfl
theorem wpList_ms_build4 {w : World} {ops : Array Oper} {rest : List Oper} {o : Oper} {a : Act} {Q : Exit → Act → World → Prop} (hgd : o.guard = none) (x1 x2 x3 x4 : Operand) (ho : o.op = .build 34 #[(1, x1), (2, x2), (3, x3), (4, x4)]) (gen epoch seq P : Int) (h1 : a.eval x1 = .int .i64 gen) (h2 : a.eval x2 = .int .i64 epoch) (h3 : a.eval x3 = .int .i64 seq) (h4 : a.eval x4 = .int .i64 P)
    (h : wpList Tryz.prog ops Q rest (a.put o.dst (.agg (mcs (hdM gen epoch seq P)).toArray)) w) : wpList Tryz.prog ops Q (o :: rest) a w := by
  refine wpList_plain hgd fun K hK => ?_
  unfold Oper.wp
  simp [execOp, ho, h1, h2, h3, h4, run_build_mast4 w gen epoch seq P, Result.andThen]
  exact hK _ _ h
set_option maxRecDepth 100000 in
theorem rckhead_any (conv soft seq size opn gen epoch sq : Int) (w : World) (H : Some conv seq size) :
    Calls Tryz.prog 8 #[gvl conv soft seq size opn, .int .i64 gen, .int .i64 epoch, .int .i64 sq] w fun e w' => e = .returned (.agg (mcs (hdM gen epoch sq (Geom.pages seq size))).toArray) ∧ Below w.heap.size w w' := by
  obtain ⟨mr, hmr, hszr⟩ := big_size (P := Tryz.prog) (t := 34) (s := 6) (by kernel_rfl)
  have hmr0 : ¬ mr = 0 := by omega
  have HM := Lib.hid hmr
  have LA := Lib.hid fun (W : World) (b : Nat) (x : Mast.Mst) (h : Box W b 34 (mcs x)) => big_load0 Tryz.prog b 0 (mcs x) mr (by rw [mcs_length, HM.out]) W h.range0
  have HP := Lib.hid fun w' => rpages_any conv soft seq size opn w' H
  generalize Geom.pages seq size = pg at *
  clear hmr H
  go_enter Tryz.func8, Tryz.ntmps8
  go_wp2_with (first
    | ((with_reducible refine wpList_box_box _ (o := ⟨some 4, .box _ _, _, _, _, _⟩) rfl _ _ rfl (gcl conv soft seq size opn) rfl ?_); intro w1 x1 hB1 hs1; clear hs1)
    | ((with_reducible refine wpList_ms_alloc (o := ⟨some 8, .alloc _, _, _, _, _⟩) rfl rfl ?_); intro w2 x2 hB2 hs2; clear hs2; have XG := x1.on hB2; have c0 : w2.cell? ⟨w.heap.size, 0, none⟩ = some (.int .i64 conv) := XG.cell 0; have c1 : w2.cell? ⟨w.heap.size, 1, none⟩ = some (.int .i64 soft) := XG.cell 1; have c2 : w2.cell? ⟨w.heap.size, 2, none⟩ = some (.int .i64 seq) := XG.cell 2; have c3 : w2.cell? ⟨w.heap.size, 3, none⟩ = some (.int .i64 size) := XG.cell 3; have c4 : w2.cell? ⟨w.heap.size, 4, none⟩ = some (.int .i64 opn) := XG.cell 4; have S2 := Lib.hid (show Box w2 w1.heap.size 34 (mcs Mast.m0) ∧ Below w.heap.size w w2 ∧ w.heap.size ≤ w1.heap.size from ⟨x2, bthen hB1 hB2, hB1.size⟩); clear x1 x2 hB1 hB2 XG; generalize w1.heap.size = br at *)
    | fail)
  refine (HP.out w2).mono ?_
  rintro e w3 ⟨rfl, hb3⟩
  have S3 := Lib.hid (show Box w3 br 34 (mcs Mast.m0) ∧ Below w.heap.size w w3 ∧ w.heap.size ≤ br from ⟨S2.out.1.on hb3, bthen S2.out.2.1 hb3, S2.out.2.2⟩)
  clear hb3 S2 c0 c1 c2 c3 c4
  go_wp2_with (first
    | (with_reducible refine wpList_ms_build4 (o := ⟨some 14, .build _ _, _, _, _, _⟩) rfl _ _ _ _ rfl gen epoch sq pg rfl rfl rfl rfl ?_)
    | ((with_reducible refine wpList_ms_store (o := ⟨none, .store _ _ _, _, _, _, _⟩) rfl _ _ rfl br (hdM gen epoch sq pg) Mast.m0 rfl rfl S3.out.1 ?_); go_loud (intro w9 hb9 hg9 _; have hldF := LA.out _ _ _ hb9; have HBl := Lib.hid (below_stored S3.out.2.1 hg9 S3.out.2.1.size S3.out.2.2); clear hb9 hg9))
    | fail)
  generalize hR : mcs (hdM gen epoch sq pg) = R9 at hldF ⊢
  exact bodyPost_ret (v := .agg R9.toArray) (by simp [results, Tryz.results8, go_sem, hszr, hldF]) rfl ⟨rfl, HBl.out⟩
set_option maxRecDepth 100000 in
set_option maxHeartbeats 4000000 in
theorem rcklittle_any (conv soft seq size opn : Int) (w : World) (h64 : W64 conv ∧ W64 soft ∧ W64 seq ∧ W64 size ∧ W64 opn) :
    Calls Tryz.prog 5 #[gvl conv soft seq size opn] w fun e w' => e = .returned (.bool (littleC conv soft seq size opn)) ∧ Below w.heap.size w w' := by
  have HR := Lib.hid fun w' => rright_any conv soft seq size opn w'
  go_enter Tryz.func5, Tryz.ntmps5
  go_wp2_with fail
  have hl := Lies.new w conv soft seq size opn 23 (0, 0)
  have hB1 : Below w.heap.size w (w.alloc (.cells #[.int .i64 conv, .int .i64 soft, .int .i64 seq, .int .i64 size, .int .i64 opn] 23)) := (Below.refl _ _).alloc (Nat.le_refl _) _
  generalize World.alloc _ _ = w1 at hl hB1 ⊢
  refine (HR.out w1).mono ?_
  rintro e w2 ⟨rfl, hb2⟩
  obtain ⟨c0, c1, c2, c3, c4, hlt⟩ := hl.below hb2
  have HB := Lib.hid (hB1.trans (hb2.mono hB1.size))
  clear hl hB1 hb2 HR
  have HL := Lib.hid (show littleC conv soft seq size opn = (Geom.okB conv soft seq size opn && decide (conv + seq ≤ 14) && decide (size ≤ 24) && decide (soft ≤ 60)) from rfl)
  cases ho : Geom.okB conv soft seq size opn with
  | false =>
    have HD := Lib.hid (show littleC conv soft seq size opn = false by rw [HL.out, ho]; rfl)
    clear ho HL
    go_wp2
    go_ret
    exact ⟨ret_bool HD.out, HB.out⟩
  | true =>
    have hok : Geom.Ok conv soft seq size opn := of_decide_eq_true ho
    have k1 := hok.1
    have k2 := hok.2.1
    have k3 := hok.2.2.1
    have HO := Lib.hid ho
    clear ho hok
    by_cases q1 : conv + seq ≤ 14
    · by_cases q2 : size ≤ 24
      · by_cases q3 : soft ≤ 60
        · have HD := Lib.hid (show littleC conv soft seq size opn = true by rw [HL.out, HO.out, decide_eq_true q1, decide_eq_true q2, decide_eq_true q3]; rfl)
          clear HL HO
          go_wp2
          go_ret
          exact ⟨ret_bool HD.out, HB.out⟩
        · have HD := Lib.hid (show littleC conv soft seq size opn = false by rw [HL.out, HO.out, decide_eq_true q1, decide_eq_true q2, decide_eq_false q3]; rfl)
          clear HL HO
          go_wp2
          go_ret
          exact ⟨ret_bool (HD.out.trans (decide_eq_false (by omega)).symm), HB.out⟩
      · have HD := Lib.hid (show littleC conv soft seq size opn = false by rw [HL.out, HO.out, decide_eq_true q1, decide_eq_false q2]; rfl)
        clear HL HO
        go_wp2
        go_ret
        exact ⟨ret_bool HD.out, HB.out⟩
    · have HD := Lib.hid (show littleC conv soft seq size opn = false by rw [HL.out, HO.out, decide_eq_false q1]; rfl)
      clear HL HO
      go_wp2
      go_ret
      exact ⟨ret_bool HD.out, HB.out⟩
set_option maxRecDepth 100000 in
set_option maxHeartbeats 4000000 in
theorem rcktable_any (conv soft seq size opn : Int) (n len cap : Nat) (A : Option Addr) (xs : List Int) (w : World) (H : Some conv seq size) (hb : blocks seq size = (n : Int)) (hl : xs.length = len) (hx : ∀ x ∈ xs, 0 ≤ x ∧ x < 4294967296) (hr : Rd w w.heap.size A (u32s xs)) :
    Calls Tryz.prog 9 #[gvl conv soft seq size opn, .slice A len cap] w fun e w' => ∃ d g h ds, e = .returned (tp d) ∧ TbIs w' d g h n (tabY n xs) ds ∧ (w.heap.size ≤ d ∧ w.heap.size ≤ g ∧ w.heap.size ≤ h) ∧ Below w.heap.size w w' := by
  have hn : n ≤ 4096 := by have := blocks_bd H; omega
  have HBk := Lib.hid fun w' => rblocks_any conv soft seq size opn w' H
  rw [hb] at HBk
  have HX := Lib.hid (And.intro hl (And.intro hx hr))
  clear H hb hl hx hr
  go_enter Tryz.func9, Tryz.ntmps9
  go_wp2_with (first
    | ((with_reducible refine wpList_box_box _ (o := ⟨some 2, .box _ _, _, _, _, _⟩) rfl _ _ rfl (gcl conv soft seq size opn) rfl ?_); intro w1 x1 hB1 hs1; clear hs1; have c0 : w1.cell? ⟨w.heap.size, 0, none⟩ = some (.int .i64 conv) := x1.cell 0; have c1 : w1.cell? ⟨w.heap.size, 1, none⟩ = some (.int .i64 soft) := x1.cell 1; have c2 : w1.cell? ⟨w.heap.size, 2, none⟩ = some (.int .i64 seq) := x1.cell 2; have c3 : w1.cell? ⟨w.heap.size, 3, none⟩ = some (.int .i64 size) := x1.cell 3; have c4 : w1.cell? ⟨w.heap.size, 4, none⟩ = some (.int .i64 opn) := x1.cell 4)
    | fail)
  refine (HBk.out w1).mono ?_
  rintro e w2 ⟨rfl, hb2⟩
  have HB2 := Lib.hid (bthen hB1 hb2)
  clear x1 hB1 hb2 c0 c1 c2 c3 c4 HBk
  go_wp2_with fail
  refine (tbnew_any n w2 hn).mono ?_
  rintro e w3 ⟨d, g, h, rfl, ht, hd, hg, hh, hb3⟩
  have S3 := Lib.hid (And.intro ht (bthen HB2.out hb3))
  have HBd : Hid (w.heap.size ≤ d ∧ w.heap.size ≤ g ∧ w.heap.size ≤ h) := Lib.hid (by have := HB2.out.size; omega)
  clear ht hd hg hh hb3 HB2
  go_wp2
  go_loopw [7] (fun i wr => ∃ (k : Nat) (ds : List Bool), k ≤ n ∧ k ≤ len ∧ i = .int .i64 k ∧ TbIs wr d g h n (tabY n (xs.take k)) ds ∧ Below w.heap.size w wr) (fun i _ => n - (intOf i).toNat)
  case atStart => exact ⟨0, _, by omega, by omega, rfl, by rw [List.take_zero, tabY_nil]; exact S3.out.1, S3.out.2⟩
  case round =>
    clear S3
    obtain ⟨k, ds, hkn, hkl, rfl, ht, hbl⟩ := hrel
    have HS := Lib.hid (And.intro ht hbl)
    clear ht hbl
    by_cases hlt : k < n ∧ k < len
    · obtain ⟨h1, h2⟩ := hlt
      have h1i : (k : Int) < (n : Int) := by omega
      have h2i : (k : Int) < (len : Int) := by omega
      obtain ⟨x, hx⟩ : ∃ x, xs[k]? = some x := ⟨xs[k]'(by rw [HX.out.1]; exact h2), List.getElem?_eq_getElem _⟩
      have hxb := HX.out.2.1 x (List.mem_of_getElem? hx)
      obtain ⟨hx0, hx1⟩ := hxb
      obtain ⟨ad, rfl, _, hc⟩ := (HX.out.2.2.below HS.out.2).at (k := k) (u := .int .u32 x) (by simp [hx])
      have HY := Lib.hid (tabY_set h1 hx)
      have HSt := Lib.hid fun w' t => tset_any (ds := ds) w' (k : Int) x (t : TbIs w' d g h n (tabY n (xs.take k)) ds)
      rw [HY.out] at HSt
      clear hx
      go_wp2_with fail
      refine (HSt.out wr HS.out.1).mono ?_
      rintro e w4 ⟨rfl, ht4, hf4⟩
      have S4 := Lib.hid (show TbIs w4 d g h n (tabY n (xs.take (k + 1))) (Tbl.putD n (tabY n (xs.take k)) ds (k : Int) x) ∧ Below w.heap.size w w4 from ⟨ht4, HS.out.2.trans (hf4.below HS.out.2.size fun j hj ht => by have := HBd.out; unfold TbT at ht; omega)⟩)
      clear ht4 hf4 HS hc
      go_wp2
      go_roundw
      case rel => exact ⟨k + 1, _, by omega, by omega, by go_num, S4.out⟩
      case measure => simp [intOf]; omega
    · have HE : Hid (tabY n (xs.take k) = tabY n xs) := Lib.hid (by
        unfold tabY
        by_cases hk : k = n
        · subst hk
          rw [List.take_take, Nat.min_self]
        · rw [List.take_of_length_le (l := xs) (i := k) (by rw [HX.out.1]; omega)])
      have HT : Hid (TbIs wr d g h n (tabY n xs) ds) := Lib.hid (by have h := HS.out.1; rwa [HE.out] at h)
      have HBl := Lib.hid HS.out.2
      clear HS HE
      by_cases hk : k = n
      · subst hk
        clear hlt hkn
        go_wp2
        go_ret
        exact ⟨d, g, h, ds, rfl, HT.out, HBd.out, HBl.out⟩
      · have hk1 : (k : Int) < (n : Int) := by omega
        have hk2 : ¬ (k : Int) < (len : Int) := by omega
        clear hlt
        go_wp2
        go_ret
        first
          | exact ⟨d, g, h, ds, rfl, HT.out, HBd.out, HBl.out⟩
          | exact ⟨d, rfl, ⟨g, h, ⟨ds, HT.out⟩, HBd.out⟩, HBl.out⟩
          | exact ⟨d, rfl, g, h, ⟨ds, HT.out⟩, HBd.out, HBl.out⟩
end Go.Proofs.YtgnpohkippegpaaGreat

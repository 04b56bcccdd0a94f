/-
  CkS CkL
-/
import Derived.Test.YtgnpohkippegpaaGreatMg37
import Derived.Test.YtgnpohkippegpaaGreatMg39
import Derived.Test.YtgnpohkippegpaaGreatMg40
import Derived.Test.YtgnpohkippegpaaGreatMg32
import Derived.Test.YtgnpohkippegpaaGreatMg33
/-
  Layer 13's answers: All (what stands in a region of a device).
-/
namespace Go.Proofs.YtgnpohkippegpaaGreat
open Go.RowKit Geom Zone Dev Ckp Word
set_option linter.unusedVariables false

/-- append of one element, laid just ahead: where the row lies then -/
theorem wpList_append_at {P : Program} {w : World} {ops : Array Oper} {rest : List Oper} {o : Oper} {a : Act} {Q : Exit → Act → World → Prop} (hgd : o.guard = none) (s x : Operand) (t : TypeId)
    (ho : o.op = .call { callee := .builtin .append, args := #[s, x], argTypes := #[t, t] })
    (base : Nat) (e : TypeId) (z : Value) (size bytes : Nat) (he : Elem P t e z size bytes)
    (v : Value) (n : Nat) (xs : List Value) (hs : a.eval s = v) (us : List Value) (hx : a.eval x = .slice (some ⟨w.heap.size, 0, none⟩) 1 1) (hown : w.ownsRow base e size v n xs) (hus : us.length = size) (h1 : ∀ u ∈ us, u.oneCell' = true)
    (h63 : n + 1 ≤ maxLen) (hbytes : (n + 1) * bytes ≤ 140737488355328) (hbase : base ≤ w.heap.size)
    (h : ∀ v' w', w'.ownsRow base e size v' (n + 1) (xs ++ us) → w.grownBy w' v.ownBlock → (∀ g, v'.ownBlock = some g → v.ownBlock = some g ∨ w.heap.size ≤ g) → wpList P ops Q rest (a.put o.dst v') w') : wpList P ops Q (o :: rest) a (w.alloc (.cells us.toArray e)) := by
  refine wpList_append_rd _ hgd s x t ho base e z size bytes he v n xs hs (hown.alloc _) _ _ 1 1 us hx (by omega) (rd_new w us e (0, 0)) h1 h63 hbytes (by simp; omega) ?_
  intro v' w' h2 h3 h4
  refine h v' w' h2 ((World.grownBy_alloc w _ _).trans h3) fun g hg => ?_
  rcases h4 with h4 | h4
  · exact .inl (h4 ▸ hg)
  · rw [hg] at h4
    injection h4 with h4
    right
    rw [h4]
    simp
/-- what stands in memory while a region is read -/
structure AlSt (T : Nat → Prop) (w W : World) (d : Nat) (D : Dv) (gs : List Value) (o : Value) (k : Nat) (ls : List (List Int)) (U : Nat → Prop) : Prop where
  dv : DevIs U W d D
  hU : ∀ k, U k → T k ∧ k < W.heap.size
  fr : Fr T w W
  ge : Box W w.heap.size 23 gs
  u0 : ¬ U w.heap.size
  row : W.ownsRow (w.heap.size + 1) 43 64 o k (pgcs ls)
  uo : ∀ g, o.ownBlock = some g → ¬ U g
  le : w.heap.size + 1 ≤ W.heap.size
section
variable {T U : Nat → Prop} {w W W' : World} {d k : Nat} {D : Dv} {gs : List Value} {o o' : Value} {ls ls' : List (List Int)}
theorem AlSt.on (s : AlSt T w W d D gs o k ls U) (hb : Below W.heap.size W W') : AlSt T w W' d D gs o k ls U :=
  ⟨s.dv.below hb, fun k hk => ⟨(s.hU k hk).1, Nat.lt_of_lt_of_le (s.hU k hk).2 hb.size⟩, s.fr.trans (Fr.of_below hb), s.ge.on hb, s.u0, own_below s.row hb, s.uo, Nat.le_trans s.le hb.size⟩
theorem AlSt.read (s : AlSt T w W d D gs o k ls U) (hT : ∀ k, w.heap.size ≤ k → T k) (hI : DevIs (fun k => U k ∨ W.heap.size ≤ k) W' d D) (hF : Fr (fun k => U k ∨ W.heap.size ≤ k) W W') :
    AlSt T w W' d D gs o k ls (fun k => (U k ∨ W.heap.size ≤ k) ∧ k < W'.heap.size) := by
  have hk : ∀ k, k < W.heap.size → ¬ U k → ¬ (U k ∨ W.heap.size ≤ k) := fun k h1 h2 h3 => by rcases h3 with h3 | h3; exact h2 h3; omega
  have hsz := s.fr.size
  refine ⟨hI.shrink fun k h1 h2 => ⟨h2, h1⟩, fun k h => ⟨?_, h.2⟩, s.fr.trans (hF.mono fun k h1 h2 => ?_), s.ge.same (hF.same s.ge.lt (hk _ s.ge.lt s.u0)), fun h => hk _ s.ge.lt s.u0 h.1, own_same s.row fun g hg => hF.same (s.row.lt g hg).2 (hk _ (s.row.lt g hg).2 (s.uo g hg)), fun g hg h => hk _ (s.row.lt g hg).2 (s.uo g hg) h.1, Nat.le_trans s.le hF.size⟩
  · rcases h.1 with h | h
    · exact (s.hU k h).1
    · exact hT k (by omega)
  · rcases h2 with h | h
    · exact (s.hU k h).1
    · omega
theorem AlSt.add (s : AlSt T w W d D gs o k ls U) (hT : ∀ k, w.heap.size ≤ k → T k) (hown : W'.ownsRow (w.heap.size + 1) 43 64 o' (k + 1) (pgcs ls')) (hg : W.grownBy W' o.ownBlock) (hat : ∀ g, o'.ownBlock = some g → o.ownBlock = some g ∨ W.heap.size ≤ g) :
    AlSt T w W' d D gs o' (k + 1) ls' U := by
  have f : Fr (fun k => o.ownBlock = some k) W W' := Fr.of_grown hg fun k hk => hk
  refine ⟨s.dv.keep fun j h1 h2 => hg.block j h1 fun e => s.uo j e.symm h2, fun j hj => ⟨(s.hU j hj).1, Nat.lt_of_lt_of_le (s.hU j hj).2 f.size⟩, s.fr.trans (f.mono fun j _ h => hT j ?_), s.ge.same (f.same s.ge.lt fun h => ?_), s.u0, hown, fun g hg' h => ?_, Nat.le_trans s.le f.size⟩
  · have := (s.row.lt j h).1; omega
  · have := (s.row.lt _ h).1; omega
  · rcases hat g hg' with h2 | h2
    · exact s.uo g h2 h
    · have := (s.hU g h).2; omega
end
set_option maxRecDepth 100000 in
set_option maxHeartbeats 4000000 in
theorem rckall_any (conv soft seq size opn odd : Int) (P N : Nat) {w : World} {d : Nat} {T : Nat → Prop} {D : Dv} (H : Some conv seq size) (hP : Geom.pages seq size = (P : Int)) (hN : N = P + 2) (hodd : 0 ≤ odd ∧ odd ≤ 1)
    (hT : ∀ k, w.heap.size ≤ k → T k) (hO : DvOk D) (hd : D.down = false) (hs : (P : Int) + 3 ≤ D.soft) (hI : DevIs T w d D) :
    Calls Tryz.prog 10 #[dp d, gvl conv soft seq size opn, .int .i64 odd] w fun e w' => ∃ V, e = .returned V ∧ w'.ownsRow w.heap.size 43 64 V N (pgcs (regD D odd N)) ∧ DevIs T w' d D ∧ Fr T w w' := by
  obtain ⟨m6, hm6, hszp⟩ := big_size (P := Tryz.prog) (t := 43) (s := 64) (by kernel_rfl)
  have hm60 : ¬ m6 = 0 := by omega
  have HM := Lib.hid hm6
  have hp410 := pages_bd H
  have hN410 : N ≤ 412 := by omega
  have HPg := Lib.hid fun w' => rpages_any conv soft seq size opn w' H
  rw [hP] at HPg
  have HO := Lib.hid (And.intro hO (And.intro (cv_of hO) hd))
  have HT := Lib.hid hT
  have HI := Lib.hid hI
  have HC2 : Hid (2 ≤ D.conv) := Lib.hid hO.ok.1
  have HLo := Lib.hid (And.intro hodd (And.intro hs hN))
  have hq2 : IntKind.i64.wrap ((P : Int) + 2) = (N : Int) := by rw [IntWalk.i64_in _ (by omega)]; omega
  have ho0 := hodd.1
  have hom : odd % 2 = odd := by omega
  have HR6 := Lib.hid (And.intro (regD_length D odd N) (regD_64 hO odd N))
  have HRa := Lib.hid fun (i : Nat) (h : i < N) => regD_at (D := D) (odd := odd) h
  have HAt := Lib.hid fun (k : Nat) (w' : World) (h : k < N) => rckat_any odd (k : Int) w' (by omega) (by omega) ho0
  rw [hom] at HAt
  generalize regD D odd N = L at *
  clear hm6 H hP hT hO hd hs hI hodd hp410 hN hom
  go_enter Tryz.func10, Tryz.ntmps10
  go_wp2_with (first
    | ((with_reducible refine wpList_box_box _ (o := ⟨some 4, .box _ _, _, _, _, _⟩) rfl _ _ rfl (gcl conv soft seq size opn) rfl ?_); go_loud (intro w1 x1 hB1 hs1; have S1 := Lib.hid (show AlSt T w w1 d D (gcl conv soft seq size opn) (.slice none 0 0) 0 (L.take 0) (fun k => T k ∧ k < w.heap.size) from ⟨(HI.out.shrink (U := fun k => T k ∧ k < w.heap.size) fun k h1 h2 => ⟨h2, h1⟩).below hB1, fun k hk => ⟨hk.1, by omega⟩, Fr.of_below hB1, x1, fun h => by omega, World.ownsRow_nil _ _ _ _, fun g hg => (by cases hg), by omega⟩); clear x1 hB1 hs1))
    | fail)
  go_loopw [7, 8] (fun o i wr => ∃ (k : Nat) (U : Nat → Prop), k ≤ N ∧ i = .int .i64 k ∧ AlSt T w wr d D (gcl conv soft seq size opn) o k (L.take k) U) (fun _ i _ => N - (intOf i).toNat)
  case atStart => exact ⟨0, _, by omega, rfl, S1.out⟩
  case round =>
    clear S1 HI
    obtain ⟨k, U, hk, rfl, hst⟩ := hrel
    have HS := Lib.hid hst
    clear hst
    have c0 : wr.cell? ⟨w.heap.size, 0, none⟩ = some (.int .i64 conv) := HS.out.ge.cell 0
    have c1 : wr.cell? ⟨w.heap.size, 1, none⟩ = some (.int .i64 soft) := HS.out.ge.cell 1
    have c2 : wr.cell? ⟨w.heap.size, 2, none⟩ = some (.int .i64 seq) := HS.out.ge.cell 2
    have c3 : wr.cell? ⟨w.heap.size, 3, none⟩ = some (.int .i64 size) := HS.out.ge.cell 3
    have c4 : wr.cell? ⟨w.heap.size, 4, none⟩ = some (.int .i64 opn) := HS.out.ge.cell 4
    go_wp2_with fail
    refine (HPg.out wr).mono ?_
    rintro e w2 ⟨rfl, hb2⟩
    have S2 := Lib.hid (HS.out.on hb2)
    clear hb2 HS c0 c1 c2 c3 c4
    by_cases hlt : k < N
    · have hki : (k : Int) < (N : Int) := by omega
      have hLk := HRa.out k hlt
      have hmem := List.mem_of_getElem? hLk
      have HP64 := Lib.hid (HR6.out.2 _ hmem)
      have HTk : Hid (L.take (k + 1) = L.take k ++ [pageD D (plZ odd, plO odd + (k : Int))]) := Lib.hid (by
        obtain ⟨h1, h2⟩ := List.getElem?_eq_some_iff.1 hLk
        rw [List.take_succ_eq_append_getElem h1, h2])
      clear hLk hmem
      go_wp2_with fail
      refine (HAt.out k w2 hlt).mono ?_
      rintro e w3 ⟨rfl, hb3⟩
      have S3 := Lib.hid (S2.out.on hb3)
      clear hb3 S2
      have hpz := plZ_in odd
      have hpo := plO_in odd
      have hrd := conv_read (z := plZ odd) (o := plO odd + (k : Int)) HO.out.2.1 HO.out.2.2 hpz.1 (by have := HC2.out; omega) (by omega) (by have := HLo.out; omega)
      have HRd := Lib.hid (read_any (T := fun j => U j ∨ w3.heap.size ≤ j) (plZ odd, plO odd + (k : Int)) ⟨w64 (by show _ ≤ plZ odd; omega) (by show plZ odd ≤ _; omega), w64 (by show _ ≤ plO odd + (k : Int); omega) (by show plO odd + (k : Int) ≤ _; omega)⟩ (fun j hj => .inr hj) HO.out.1 (S3.out.dv.shrink fun j _ h => .inl h))
      rw [hrd] at HRd
      clear hrd
      go_wp2_with fail
      refine HRd.out.mono ?_
      rintro e w5 ⟨rfl, hI5, hF5⟩
      have S5 := Lib.hid (S3.out.read HT.out hI5 hF5)
      clear hI5 hF5 S3 HRd
      generalize pageD D (plZ odd, plO odd + (k : Int)) = p at *
      generalize (fun j => (U j ∨ w3.heap.size ≤ j) ∧ j < w5.heap.size) = U5 at S5
      have HL0 : Hid ((bs p).length = 64 ∧ ∀ u ∈ bs p, u.oneCell' = true) := Lib.hid ⟨by rw [bs_length]; exact HP64.out, fun u hu => bs_one _ _ hu⟩
      go_wp2_with (first
        | ((with_reducible refine wpList_pg_alloc (o := ⟨some 9, .alloc _, _, _, _, _⟩) rfl rfl ?_); intro w6 x6 hB6 hs6; clear hs6)
        | ((with_reducible refine wpList_pg_store (o := ⟨none, .store _ (.tmp 9) _, _, _, _, _⟩) rfl _ _ rfl w5.heap.size p pg0 HP64.out rfl rfl rfl x6 ?_); go_loud (intro w7 x7 hg7 _; have K7 := below_stored hB6 hg7 hB6.size (Nat.le_refl _); have S7 := Lib.hid (S5.out.on K7); have l7 := big_load0 Tryz.prog w5.heap.size 0 (bs p) m6 (by rw [bs_length, HP64.out, HM.out]) _ x7.range0; have hle7 := S7.out.le; clear hB6 x6 hg7 K7 S5 x7; generalize w5.heap.size = bp at *))
        | ((with_reducible refine wpList_pg_slice1 (o := ⟨some 28, .buildSlice _ _ _, _, _, _, _⟩) rfl _ rfl (bs p) HL0.out.1 rfl ?_))
        | (at_builtin; go_loud (refine wpList_append_at rfl _ _ _ rfl (w.heap.size + 1) 43 _ 64 64 elemP u7 _ _ rfl (bs p) rfl S7.out.row HL0.out.1 HL0.out.2 (by simp only [maxLen]; omega) (by omega) hle7 ?_); intro v1 w8 hown1 hg1 hat1; have S8 := Lib.hid (S7.out.add (ls' := L.take (k + 1)) HT.out (by rw [HTk.out, pgcs_snoc]; exact hown1) hg1 hat1); clear hown1 hg1 hat1 l7)
        | fail)
      go_roundw
      case rel => exact ⟨k + 1, U5, by omega, by go_num, S8.out⟩
      case measure => simp [intOf]; omega
    · obtain rfl : N = k := by omega
      have HX := Lib.hid S2.out
      go_wp2
      go_ret
      have h := HX.out
      rw [List.take_of_length_le (by rw [HR6.out.1]; exact Nat.le_refl _)] at h
      exact ⟨_, rfl, own_base0 h.row (Nat.le_succ _), h.dv.shrink fun k _ hk => (h.hU k hk).1, h.fr⟩
end Go.Proofs.YtgnpohkippegpaaGreat

/-
  Layer 13's laws: what stands in memory: the device beside what the law holds; a checkpoint written, and picked.
-/
namespace Go.Proofs.YtgnpohkippegpaaGreat
open Go.RowKit Geom Zone Dev Ckp Word
set_option linter.unusedVariables false

namespace Ckp
/-- a right measure: how many blocks, how many leaves -/
structure Msr (conv soft seq size opn : Int) (n P : Nat) : Prop where
  ok : Geom.Ok conv soft seq size opn
  hb : blocks seq size = (n : Int)
  hP : Tbl.pages n = P
  hPg : Geom.pages seq size = (P : Int)
  n4 : n ≤ 4096
theorem msr_of {conv soft seq size opn : Int} (h : Geom.Ok conv soft seq size opn) : ∃ n P, Msr conv soft seq size opn n P := by
  have hb := blocks_bd h.some
  refine ⟨(blocks seq size).toNat, Tbl.pages (blocks seq size).toNat, h, by omega, rfl, ?_, by omega⟩
  unfold Geom.pages Tbl.pages
  omega
theorem Msr.soft {conv soft seq size opn : Int} {n P : Nat} (h : Msr conv soft seq size opn n P) : (P : Int) + 3 ≤ soft := by
  have := h.ok.2.2.2.2.2.2.1
  rw [h.hPg] at this
  exact this
theorem Msr.little {conv soft seq size opn : Int} {n P : Nat} (h : Msr conv soft seq size opn n P) (h1 : conv + seq ≤ 14) (h2 : size ≤ 24) : P ≤ 9 := by
  have hc := h.ok.1
  have h6 := h.ok.2.1
  have hs := h.ok.2.2.2.1
  have a := mul_in (show 0 ≤ seq - 5 by omega) (show seq - 5 ≤ 7 by omega) (show 0 ≤ size / 2 by omega) (show size / 2 ≤ 12 by omega)
  have hb := h.hb
  have hg := h.hPg
  unfold Geom.pages at hg
  unfold blocks at hb hg
  omega
theorem little_yes {conv soft seq size opn : Int} (h : littleC conv soft seq size opn = true) : Geom.Ok conv soft seq size opn ∧ conv + seq ≤ 14 ∧ size ≤ 24 ∧ soft ≤ 60 := by
  unfold littleC at h
  simp only [Bool.and_eq_true, decide_eq_true_eq] at h
  exact ⟨of_decide_eq_true h.1.1.1, h.1.1.2, h.1.2, h.2⟩
theorem head_yes {gen epoch sq : Int} {P : Nat} (h1 : 1 ≤ gen ∧ gen ≤ 1099511627776) (h2 : 1 ≤ epoch ∧ epoch ≤ 1099511627776) (h3 : 0 ≤ sq ∧ sq ≤ 1099511627776) (hP : P ≤ 410) : headB (hdM gen epoch sq P) (P : Int) = true ∧ Mast.In (hdM gen epoch sq P) := by
  refine ⟨head_iff.2 ⟨decide_eq_true ⟨h1, h2, h3, ⟨by show (0 : Int) ≤ (P : Int); omega, by show (P : Int) ≤ 4096; omega⟩, .inr rfl⟩, rfl, rfl⟩, ?_, ?_⟩
  · show (0 : Int) ≤ 0; omega
  · show (0 : Int) < 4294967296; omega
/-- a new device is at rest -/
theorem sd_new {conv soft seq size opn : Int} {n P k : Nat} (h : Msr conv soft seq size opn n P) (hk : (k : Int) = conv + seq) : Sd 0 P (newD conv soft seq size opn k) :=
  ⟨new_ok h.ok hk, od_new _ _ _ _ _ _, rfl, rfl, rfl, h.soft⟩
theorem pick_none {conv soft seq size opn : Int} {k n P : Nat} (hP : Tbl.pages n = P) : pickS (newD conv soft seq size opn k) n P = none := by
  have h0 : ∀ odd : Int, whS n P odd (regD (newD conv soft seq size opn k) odd (P + 2)) = none := fun odd => whole_none hP (regD_length _ _ _) (reg_new rfl (fun _ _ => rfl) _ (by omega))
  have e : pickS (newD conv soft seq size opn k) n P = pkF (pkF none (whS n P 0 (regD (newD conv soft seq size opn k) 0 (P + 2)))) (whS n P 1 (regD (newD conv soft seq size opn k) 1 (P + 2))) := rfl
  rw [e, h0, h0]
  rfl
end Ckp
section
variable {w W W' : World} {X : List Nat} {d : Nat} {D D' : Dv}
theorem DvSt.more (h : DvSt w W X d D) (hb : Below W.heap.size W W') (Y : List Nat) (hY : ∀ b ∈ Y, W.heap.size ≤ b ∧ b < W'.heap.size) : DvSt w W' (Y ++ X) d D := by
  have h0 : DevIs (TX w.heap.size (Y ++ X)) W d D := h.1.shrink fun k h1 h2 => ⟨h2.1, fun hx => by
    rcases List.mem_append.1 hx with h3 | h3
    · have := (hY k h3).1; omega
    · exact h2.2 h3⟩
  exact ⟨h0.below hb, bthen h.2.1 hb, fun b hb' => by
    rcases List.mem_append.1 hb' with h3 | h3
    · exact (hY b h3).2
    · exact Nat.lt_of_lt_of_le (h.2.2 b h3) hb.size⟩
theorem DvSt.less {Y : List Nat} (h : DvSt w W Y d D) (hX : ∀ b ∈ X, b ∈ Y) : DvSt w W X d D := ⟨h.1.shrink fun k h1 h2 => ⟨h2.1, fun hx => h2.2 (hX k hx)⟩, h.2.1, fun b hb => h.2.2 b (hX b hb)⟩
theorem TbIs.tx {dt gt ht n : Nat} {ys : List Int} {ds : List Bool} (t : TbIs W dt gt ht n ys ds) (hF : Fr (TX w.heap.size X) W W') (hx : dt ∈ X ∧ gt ∈ X ∧ ht ∈ X) : TbIs W' dt gt ht n ys ds :=
  t.fr hF (fun h => h.2 hx.1) (fun h => h.2 hx.2.1) (fun h => h.2 hx.2.2)
end
/-- the device, and the measure's variable -/
structure LwSt (w W : World) (X : List Nat) (d : Nat) (D : Dv) (gs : List Value) : Prop where
  dv : DvSt w W X d D
  ge : Box W w.heap.size 23 gs
  gx : w.heap.size ∈ X
section
variable {w W W' : World} {X : List Nat} {d : Nat} {D D' : Dv} {gs : List Value}
theorem LwSt.on (s : LwSt w W X d D gs) (hb : Below W.heap.size W W') : LwSt w W' X d D gs := ⟨s.dv.on hb, s.ge.on hb, s.gx⟩
theorem LwSt.put (s : LwSt w W X d D gs) (hI : DevIs (TX w.heap.size X) W' d D') (hF : Fr (TX w.heap.size X) W W') : LwSt w W' X d D' gs := ⟨s.dv.next hI hF, hF.box s.ge s.gx, s.gx⟩
theorem LwSt.more (s : LwSt w W X d D gs) (hb : Below W.heap.size W W') (Y : List Nat) (hY : ∀ b ∈ Y, W.heap.size ≤ b ∧ b < W'.heap.size) : LwSt w W' (Y ++ X) d D gs := ⟨s.dv.more hb Y hY, s.ge.on hb, List.mem_append_right _ s.gx⟩
theorem LwSt.less {Y : List Nat} (s : LwSt w W Y d D gs) (hX : ∀ b ∈ X, b ∈ Y) (h0 : w.heap.size ∈ X) : LwSt w W X d D gs := ⟨s.dv.less hX, s.ge, h0⟩
theorem LwSt.cells {conv soft seq size opn : Int} (s : LwSt w W X d D (gcl conv soft seq size opn)) : W.cell? ⟨w.heap.size, 0, none⟩ = some (.int .i64 conv) ∧ W.cell? ⟨w.heap.size, 1, none⟩ = some (.int .i64 soft) ∧ W.cell? ⟨w.heap.size, 2, none⟩ = some (.int .i64 seq) ∧
    W.cell? ⟨w.heap.size, 3, none⟩ = some (.int .i64 size) ∧ W.cell? ⟨w.heap.size, 4, none⟩ = some (.int .i64 opn) := ⟨s.ge.cell 0, s.ge.cell 1, s.ge.cell 2, s.ge.cell 3, s.ge.cell 4⟩
end
/-- a new device -/
theorem lw_new {w W : World} {X : List Nat} {conv soft seq size opn : Int} {n P : Nat} (M : Msr conv soft seq size opn n P) (hg : Box W w.heap.size 23 (gcl conv soft seq size opn)) (hb : Below w.heap.size w W) (hX : ∀ b ∈ X, b < W.heap.size) (h0 : w.heap.size ∈ X) :
    Calls Tryz.prog 6 #[gvl conv soft seq size opn] W fun e W' => ∃ d, e = .returned (dp d) ∧ LwSt w W' X d (newD conv soft seq size opn (conv + seq).toNat) (gcl conv soft seq size opn) ∧ Below W.heap.size W W' := by
  have hc := M.ok.1
  have hs := M.ok.2.1
  refine (dnew_any conv soft seq size opn (conv + seq).toNat W M.ok (by omega)).mono ?_
  rintro e W' ⟨d, rfl, hI, hB⟩
  exact ⟨d, rfl, ⟨⟨hI.shrink fun k _ hk => ⟨Nat.le_trans hb.size hk, fun hx => by have := hX k hx; omega⟩, bthen hb hB, fun b hb' => Nat.lt_of_lt_of_le (hX b hb') hB.size⟩, hg.on hB, h0⟩, hB⟩
/-- a checkpoint is written -/
theorem lw_write {w W : World} {X : List Nat} {d n P k0 tt tg th : Nat} {D : Dv} {gs : List Value} {ys : List Int} {ds : List Bool} {conv soft seq size opn : Int} (M : Msr conv soft seq size opn n P) (L : LwSt w W X d D gs) (m : Mast.Mst) (hN : DvN k0 D) (hk : k0 + P + 10 ≤ 500)
    (t : TbIs W tt tg th n ys ds) (hx : tt ∈ X ∧ tg ∈ X ∧ th ∈ X) (hnar : Nar ys) (hin : Mast.In m) :
    Calls Tryz.prog 7 #[dp d, gvl conv soft seq size opn, .agg (mcs m).toArray, tp tt] W fun e W' => e = .returned (.int .i64 (ckW D m ys P).1) ∧ LwSt w W' X d (ckW D m ys P).2 gs ∧ Fr (TX w.heap.size X) W W' := by
  refine (ckwrite_any (T := TX w.heap.size X) conv soft seq size opn n P k0 m M.ok.some M.hP M.hPg L.dv.hT hN hk L.dv.1 t hnar hin ⟨fun h => h.2 hx.1, fun h => h.2 hx.2.1, fun h => h.2 hx.2.2⟩).mono ?_
  rintro e W' ⟨rfl, hI, hF⟩
  exact ⟨rfl, L.put hI hF, hF⟩
/-- what Pick answers, and the device beside it -/
def LwPk (w W W' : World) (X : List Nat) (d n : Nat) (D : Dv) (gs : List Value) (R : Option (Mast.Mst × List Int)) (e : Ending) : Prop := match R with
  | none => e = .returned (.tuple #[.agg (mcs Mast.m0).toArray, .pointer none, .int .i64 15]) ∧ LwSt w W' X d D gs
  | some x => ∃ dt gt ht, e = .returned (.tuple #[.agg (mcs x.1).toArray, tp dt, .int .i64 0]) ∧ TbIs W' dt gt ht n x.2 (List.replicate (Tbl.pages n) false) ∧ LwSt w W' ([dt, gt, ht] ++ X) d D gs
/-- what is picked -/
theorem lw_pick {w W : World} {X : List Nat} {d n P : Nat} {D : Dv} {gs : List Value} {conv soft seq size opn : Int} (M : Msr conv soft seq size opn n P) (L : LwSt w W X d D gs) (hO : DvOk D) (hOd : Od D) (hd : D.down = false) (hs : (P : Int) + 3 ≤ D.soft) :
    Calls Tryz.prog 15 #[dp d, gvl conv soft seq size opn] W fun e W' => LwPk w W W' X d n D gs (pickS D n P) e ∧ Fr (TX w.heap.size X) W W' := by
  refine (ckpick_any (T := TX w.heap.size X) conv soft seq size opn n P M.ok.some M.hb M.hP M.hPg L.dv.hT hO hOd hd hs L.dv.1).mono ?_
  rintro e W' ⟨U, hp, hI, hU, hF⟩
  refine ⟨?_, hF⟩
  have hL : LwSt w W' X d D gs := L.put (hI.shrink fun k _ h => hU k h) hF
  cases hR : pickS D n P with
  | none =>
    rw [hR] at hp
    exact ⟨hp, hL⟩
  | some x =>
    rw [hR] at hp
    obtain ⟨dt, gt, ht, he, t, hb, hu⟩ := hp
    have hw := L.dv.2.1.size
    have h1 := t.tb.lt
    have h2 := t.lv.lt
    have h3 := t.dt.lt
    have hg := L.ge.lt
    refine ⟨dt, gt, ht, he, t, ⟨⟨hI.shrink fun k hk h => ⟨(hU k h).1, fun hx => ?_⟩, hL.dv.2.1, fun b hb' => ?_⟩, hL.ge, List.mem_append_right _ L.gx⟩⟩
    · rcases List.mem_append.1 hx with hx | hx
      · simp only [List.mem_cons, List.not_mem_nil, or_false] at hx
        rcases hx with rfl | rfl | rfl
        · exact hu.1 h
        · exact hu.2.1 h
        · exact hu.2.2 h
      · exact (hU k h).2 hx
    · rcases List.mem_append.1 hb' with hx | hx
      · simp only [List.mem_cons, List.not_mem_nil, or_false] at hx
        omega
      · exact hL.dv.2.2 b hx
theorem lw_head {conv soft seq size opn : Int} {n P : Nat} (M : Msr conv soft seq size opn n P) (gen epoch sq : Int) (W : World) :
    Calls Tryz.prog 8 #[gvl conv soft seq size opn, .int .i64 gen, .int .i64 epoch, .int .i64 sq] W fun e W' => e = .returned (.agg (mcs (hdM gen epoch sq (P : Int))).toArray) ∧ Below W.heap.size W W' := by
  have h := rckhead_any conv soft seq size opn gen epoch sq W M.ok.some
  rwa [M.hPg] at h
theorem lw_table {conv soft seq size opn : Int} {n P : Nat} (M : Msr conv soft seq size opn n P) (len cap : Nat) (A : Option Addr) (xs : List Int) (W : World) (hl : xs.length = len) (hx : ∀ x ∈ xs, 0 ≤ x ∧ x < 4294967296) (hr : Rd W W.heap.size A (u32s xs)) :
    Calls Tryz.prog 9 #[gvl conv soft seq size opn, .slice A len cap] W fun e W' => ∃ d g h ds, e = .returned (tp d) ∧ TbIs W' d g h n (tabY n xs) ds ∧ (∀ b ∈ [d, g, h], W.heap.size ≤ b ∧ b < W'.heap.size) ∧ Below W.heap.size W W' := by
  refine (rcktable_any conv soft seq size opn n len cap A xs W M.ok.some M.hb hl hx hr).mono ?_
  rintro e W' ⟨d, g, h, ds, rfl, t, hb, hB⟩
  refine ⟨d, g, h, ds, rfl, t, fun b hb' => ?_, hB⟩
  have h1 := t.tb.lt
  have h2 := t.lv.lt
  have h3 := t.dt.lt
  simp only [List.mem_cons, List.not_mem_nil, or_false] at hb'
  omega
end Go.Proofs.YtgnpohkippegpaaGreat

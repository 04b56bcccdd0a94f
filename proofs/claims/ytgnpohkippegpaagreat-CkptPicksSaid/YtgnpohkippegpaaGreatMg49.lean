/-
  CkO
-/
import Derived.Test.YtgnpohkippegpaaGreatMg42
import Derived.Test.YtgnpohkippegpaaGreatMg48
import Derived.Laws.BitsAllLaws
/-
  Layer 13's laws: the law Picks.
-/
namespace Go.Proofs.YtgnpohkippegpaaGreat
open Go.ChangeShapes Go.WideShapes
open Go.RowKit Geom Zone Dev Ckp Word
set_option linter.unusedVariables false

namespace Ckp
/-- a device at rest, whose cache may bear commands -/
structure Up (k P : Nat) (D : Dv) : Prop where
  n : DvN k D
  od : Od D
  up : D.down = false
  ar : D.armed = 0
  so : (P : Int) + 3 ≤ D.soft
theorem Sd.upp {k P : Nat} {D : Dv} (h : Sd k P D) : Up k P D := ⟨h.n, h.od, h.up, h.ar, h.so⟩
theorem up_place {k P : Nat} {D : Dv} (h : Up k P D) {odd : Int} {i : Nat} (hi : i < P + 2) : 0 ≤ plZ odd ∧ plZ odd < D.conv ∧ 0 ≤ plO odd + (i : Int) ∧ plO odd + (i : Int) < D.soft := by
  have h1 := plZ_in odd
  have h2 := plO_in odd
  have h3 := h.n.ok.ok.1
  have h4 := h.so
  omega
theorem up_write {k P : Nat} {D : Dv} (h : Up k P D) (hk : k + 1 ≤ 500) {odd : Int} {i : Nat} (hi : i < P + 2) {p : List Int} (hp : p.length = 64) (ho : octets p) : ∃ D', writeD D (plZ odd, plO odd + (i : Int), p) = (0, D') ∧ Up (k + 1) P D' := by
  obtain ⟨a0, a1, a2, a3⟩ := up_place h (odd := odd) hi
  have hw := conv_write (p := p) (cv_of h.n.ok) h.up a0 a1 a2 a3
  rw [tick_up (by exact h.ar)] at hw
  refine ⟨_, hw, ?_⟩
  have h1 := write_ok (plZ odd, plO odd + (i : Int), p) hp h.n (by omega)
  have h2 := od_write (c := (plZ odd, plO odd + (i : Int), p)) h.od ho
  rw [hw] at h1 h2
  exact ⟨h1, h2, h.up, h.ar, h.so⟩
theorem up_read {k P : Nat} {D : Dv} (h : Up k P D) {odd : Int} {i : Nat} (hi : i < P + 2) : readD D (plZ odd, plO odd + (i : Int)) = (pageD D (plZ odd, plO odd + (i : Int)), 0, D) := by
  obtain ⟨a0, a1, a2, a3⟩ := up_place h (odd := odd) hi
  exact conv_read (cv_of h.n.ok) h.up a0 a1 a2 a3
theorem two_core {D0 : Dv} {m1 m2 : Mast.Mst} {ys1 ys2 : List Int} {n k P : Nat} (h : Sd k P D0) (hk : k + 2 * P + 8 ≤ 500) (hP : Tbl.pages n = P)
    (hm1 : headB m1 (P : Int) = true) (ht1 : TabOk n ys1) (hm2 : headB m2 (P : Int) = true) (ht2 : TabOk n ys2) :
    ∃ D1 D2, ckW D0 m1 ys1 P = (0, D1) ∧ Sd (k + P + 4) P D1 ∧ ckW D1 m2 ys2 P = (0, D2) ∧ Sd (k + P + 4 + P + 4) P D2 := by
  have hy1 : ys1.length = 10 * P := by rw [← hP]; exact ht1.len
  have hy2 : ys2.length = 10 * P := by rw [← hP]; exact ht2.len
  obtain ⟨D1, a1, s1, _, _, _⟩ := ckW_full h (by omega) hm1 hy1
  obtain ⟨D2, a2, s2, _, _, _⟩ := ckW_full s1 (by omega) hm2 hy2
  exact ⟨D1, D2, a1, s1, a2, s2⟩
theorem set_oct {p : List Int} (h : octets p) (j : Nat) {v : Int} (hv : 0 ≤ v ∧ v ≤ 255) : octets (p.set j v) := fun x hx => by
  rcases List.mem_or_eq_of_mem_set hx with h1 | h1
  · exact h x h1
  · rw [h1]; exact hv
end Ckp
/-- a spoil, as it lies in memory -/
abbrev Sp := Bool × Int × Int × Int
abbrev spc (x : Sp) : List Value := [.bool x.1, .int .u8 x.2.1, .int .u8 x.2.2.1, .int .u8 x.2.2.2]
def SpIn (x : Sp) : Prop := (0 ≤ x.2.1 ∧ x.2.1 ≤ 255) ∧ (0 ≤ x.2.2.1 ∧ x.2.2.1 ≤ 255) ∧ (0 ≤ x.2.2.2 ∧ x.2.2.2 ≤ 255)
theorem sp_at {w : World} {B : Nat} {A : Option Addr} {ts : List Sp} {k : Nat} {t : Sp} (h : Rd w B A (ts.flatMap spc)) (hk : ts[k]? = some t) :
    ∃ ad, A = some ad ∧ ∀ w' : World, (∀ p : Addr, p.block < B → w'.cell? p = w.cell? p) → w'.cell? (ad.add (k * 4)) = some (.bool t.1) ∧ w'.cell? ⟨(ad.add (k * 4)).block, (ad.add (k * 4)).off + 1, none⟩ = some (.int .u8 t.2.1) ∧
      w'.cell? ⟨(ad.add (k * 4)).block, (ad.add (k * 4)).off + 2, none⟩ = some (.int .u8 t.2.2.1) ∧ w'.cell? ⟨(ad.add (k * 4)).block, (ad.add (k * 4)).off + 3, none⟩ = some (.int .u8 t.2.2.2) := by
  have hg : ∀ j v, j < 4 → (spc t)[j]? = some v → (ts.flatMap spc)[k * 4 + j]? = some v := fun j v hj hv => by
    rw [flat_get spc 4 ts k j t (fun y _ => rfl) hk hj]
    exact hv
  obtain ⟨ad, rfl, hb, hc⟩ := h.at (hg 0 _ (by omega) rfl)
  have hf : ∀ j v, 1 ≤ j → j < 4 → (spc t)[j]? = some v → w.cell? ⟨(ad.add (k * 4)).block, (ad.add (k * 4)).off + j, none⟩ = some v := fun j v hj h4 hv => by
    have e : (⟨(ad.add (k * 4)).block, (ad.add (k * 4)).off + j, none⟩ : Addr) = (ad.add (k * 4)).add j := by
      conv => rhs; unfold Addr.add
      rw [if_neg (by omega)]
      rfl
    rw [e, addr_add_add]
    obtain ⟨ad2, e2, _, h2⟩ := h.at (hg j v h4 hv)
    obtain rfl : ad = ad2 := by injection e2
    exact h2
  refine ⟨ad, rfl, fun w' hw => ⟨?_, ?_, ?_, ?_⟩⟩
  · rw [hw _ (by rw [addr_add_block]; exact hb)]
    exact hc
  · rw [hw _ (by show (ad.add (k * 4)).block < B; rw [addr_add_block]; exact hb)]
    exact hf 1 _ (Nat.le_refl 1) (by omega) rfl
  · rw [hw _ (by show (ad.add (k * 4)).block < B; rw [addr_add_block]; exact hb)]
    exact hf 2 _ (by omega) (by omega) rfl
  · rw [hw _ (by show (ad.add (k * 4)).block < B; rw [addr_add_block]; exact hb)]
    exact hf 3 _ (by omega) (by omega) rfl
theorem rows_spoils {w : World} : ∀ rows : List (List Value), (∀ r ∈ rows, r.length = 4 ∧ Has (.pair 1 .bool (.pair 1 (.int .u8) (.pair 1 (.int .u8) (.pair 1 (.int .u8) .nil)))) w r) → ∃ xs : List Sp, xs.length = rows.length ∧ rows.flatten = xs.flatMap spc ∧ ∀ x ∈ xs, SpIn x
  | [], _ => ⟨[], rfl, rfl, by simp⟩
  | r :: rows, h => by
    obtain ⟨xs, h1, h2, h3⟩ := rows_spoils rows fun x hx => h x (List.mem_cons_of_mem _ hx)
    obtain ⟨_, _, _, rfl, _, ⟨c, rfl⟩, _, _, rfl, _, ⟨a, rfl, ha⟩, _, _, rfl, _, ⟨b, rfl, hb⟩, _, _, rfl, _, ⟨d, rfl, hd⟩, rfl⟩ := h r List.mem_cons_self
    refine ⟨(c, a, b, d) :: xs, by simp [h1], by rw [List.flatten_cons, h2]; rfl, fun t ht => ?_⟩
    rcases List.mem_cons.1 ht with rfl | ht
    · exact ⟨wf_byte ha, wf_byte hb, wf_byte hd⟩
    · exact h3 t ht
set_option maxRecDepth 100000 in
theorem open_spoils {H : Type} {enc : TypeId × Value → H} {w : World} {base b0 : Nat} {r : Reach} {sp : Nat → Bool} {held : Bool} {v : Value} {d : DataW H} {ps : List MemPlace}
    (hu : Value.okWide Tryz.prog w r b0 25 v) (h : DataW.Trod enc Tryz.prog w base sp held 25 v d ps) :
    ∃ (A : Option Addr) (n cap : Nat) (xs : List Sp), v = .slice A n cap ∧ n ≤ maxLen ∧ xs.length = n ∧ Rd w w.heap.size A (xs.flatMap spc) ∧ ∀ x ∈ xs, SpIn x := by
  obtain ⟨a, len, cap, rfl⟩ := okWide_slice Tryz.underlying25 hu
  have hs := has_of (s := .slice 4 (.pair 1 .bool (.pair 1 (.int .u8) (.pair 1 (.int .u8) (.pair 1 (.int .u8) .nil))))) 4 (by kernel_rfl) h
  obtain ⟨A, n, c, rows, h1, h2, h3, h4, h5, h6⟩ := hs
  obtain ⟨xs, h7, h8, h9⟩ := rows_spoils rows h6
  have h10 : [Value.slice a len cap] = [.slice A n c] := h1
  obtain ⟨rfl, rfl, rfl⟩ : a = A ∧ len = n ∧ cap = c := by simpa using h10
  exact ⟨a, len, cap, xs, rfl, by omega, by omega, by rw [← h8]; exact h5, h9⟩
/-- what the answer's Read answers, in one form -/
def RdAns (w w' : World) (n : Nat) (R : Option (Mast.Mst × List Int)) (m : Mast.Mst) (V : Value) (ok : Bool) : Prop := match R with
  | none => ok = false
  | some x => ok = true ∧ m = x.1 ∧ w'.ownsRow w.heap.size 3 1 V n (is (x.2.take n))
theorem RdPost.ans {w w' : World} {n : Nat} {R : Option (Mast.Mst × List Int)} {e : Ending} (h : RdPost w w' n R e) : ∃ m V ok, e = .returned (.tuple #[.agg (mcs m).toArray, V, .bool ok]) ∧ RdAns w w' n R m V ok := by
  cases R with
  | none =>
    obtain ⟨m, V, he⟩ := h
    exact ⟨m, V, false, he, rfl⟩
  | some x =>
    obtain ⟨V, he, ho⟩ := h
    exact ⟨x.1, V, true, he, rfl, rfl, ho⟩
/-- a row beside the device -/
def RowB (w W : World) (X : List Nat) (V : Value) (n : Nat) (zs : List Int) : Prop := W.ownsRow 0 3 1 V n (is zs) ∧ ∀ g, V.ownBlock = some g → g ∈ X
theorem RowB.on {w W W' : World} {X : List Nat} {V : Value} {n : Nat} {zs : List Int} (h : RowB w W X V n zs) (hb : Below W.heap.size W W') : RowB w W' X V n zs := ⟨own_below h.1 hb, h.2⟩
theorem RowB.fr {w W W' : World} {X : List Nat} {V : Value} {n : Nat} {zs : List Int} (h : RowB w W X V n zs) (hF : Fr (TX w.heap.size X) W W') : RowB w W' X V n zs := ⟨own_same h.1 fun g hg => hF.same (h.1.lt g hg).2 (fun ht => ht.2 (h.2 g hg)), h.2⟩
theorem RowB.more {w W : World} {X : List Nat} {V : Value} {n : Nat} {zs : List Int} (h : RowB w W X V n zs) (Y : List Nat) : RowB w W (Y ++ X) V n zs := ⟨h.1, fun g hg => List.mem_append_right _ (h.2 g hg)⟩
/-- the answer's Read, beside the device -/
def AnsB (w W : World) (X : List Nat) (n : Nat) (R : Option (Mast.Mst × List Int)) (m : Mast.Mst) (V : Value) (ok : Bool) : Prop := match R with
  | none => ok = false
  | some x => ok = true ∧ m = x.1 ∧ RowB w W X V n (x.2.take n)
theorem AnsB.on {w W W' : World} {X : List Nat} {V : Value} {n : Nat} {R : Option (Mast.Mst × List Int)} {m : Mast.Mst} {ok : Bool} (h : AnsB w W X n R m V ok) (hb : Below W.heap.size W W') : AnsB w W' X n R m V ok := by
  cases R with
  | none => exact h
  | some x => exact ⟨h.1, h.2.1, h.2.2.on hb⟩
theorem AnsB.fr {w W W' : World} {X : List Nat} {V : Value} {n : Nat} {R : Option (Mast.Mst × List Int)} {m : Mast.Mst} {ok : Bool} (h : AnsB w W X n R m V ok) (hF : Fr (TX w.heap.size X) W W') : AnsB w W' X n R m V ok := by
  cases R with
  | none => exact h
  | some x => exact ⟨h.1, h.2.1, h.2.2.fr hF⟩
theorem AnsB.more {w W : World} {X : List Nat} {V : Value} {n : Nat} {R : Option (Mast.Mst × List Int)} {m : Mast.Mst} {ok : Bool} (h : AnsB w W X n R m V ok) (Y : List Nat) : AnsB w W (Y ++ X) n R m V ok := by
  cases R with
  | none => exact h
  | some x => exact ⟨h.1, h.2.1, h.2.2.more Y⟩
/-- where all orders of a region come to one end, but for five things -/
def Meet5 (A : Nat → Value → Mast.Mst → Value → Bool → Act) (R : World → Nat → Value → Mast.Mst → Value → Bool → Prop) : Exit → Act → World → Prop
  | .normal, a, w => ∃ b V m U k, R w b V m U k ∧ a = A b V m U k
  | _, _, _ => False
theorem wp_meet5 {P : Program} {c : Code} {Q : Exit → Act → World → Prop} {a : Act} {w : World} {A : Nat → Value → Mast.Mst → Value → Bool → Act} (R : World → Nat → Value → Mast.Mst → Value → Bool → Prop) (h : c.wp P (Meet5 A R) a w) (h2 : ∀ w' b V m U k, R w' b V m U k → Q .normal (A b V m U k) w') : c.wp P Q a w :=
  Code.wp_mono (fun e a' w' hm => by
    cases e <;> first | exact (hm : False).elim | (obtain ⟨b, V, m, U, k, hr, rfl⟩ := (hm : ∃ b V m U k, R w' b V m U k ∧ a' = A b V m U k); exact h2 _ b V m U k hr)) h
theorem LwSt.stored {w W W' : World} {X : List Nat} {d b : Nat} {D : Dv} {gs : List Value} (s : LwSt w W X d D gs) (hg : W.grownBy W' (some b)) (hb : b ∈ X) (h1 : w.heap.size < b) : LwSt w W' X d D gs :=
  ⟨⟨s.dv.1.keep fun j h1 h2 => hg.block j h1 fun e => h2.2 (by injection e with e; rw [e]; exact hb), below_stored s.dv.2.1 hg s.dv.2.1.size (Nat.le_of_lt h1), fun x hx => Nat.lt_of_lt_of_le (s.dv.2.2 x hx) hg.size⟩, s.ge.grown hg (by omega), s.gx⟩
theorem AnsB.stored {w W W' : World} {X : List Nat} {b n : Nat} {V : Value} {cs : List Value} {R : Option (Mast.Mst × List Int)} {m : Mast.Mst} {ok : Bool} (h : AnsB w W X n R m V ok) (x : Box W b 34 cs) (hg : W.grownBy W' (some b)) : AnsB w W' X n R m V ok := by
  cases R with
  | none => exact h
  | some y => exact ⟨h.1, h.2.1, own_same h.2.2.1 fun g hg' => hg.block g (h.2.2.1.lt g hg').2 (fun e => x.ne_row h.2.2.1 hg' (by decide) (by injection e with e; exact e.symm)), h.2.2.2⟩
/-- its row comes to what is kept -/
theorem ans_in {w W W' : World} {X : List Nat} {d n : Nat} {D : Dv} {gs : List Value} {V : Value} {R : Option (Mast.Mst × List Int)} {m : Mast.Mst} {ok : Bool} (L : LwSt w W X d D gs) (hb : Below W.heap.size W W') (h : RdAns W W' n R m V ok) :
    ∃ Y, LwSt w W' (Y ++ X) d D gs ∧ AnsB w W' (Y ++ X) n R m V ok := by
  cases R with
  | none => exact ⟨[], L.on hb, h⟩
  | some x =>
    obtain ⟨h1, h2, h3⟩ := h
    exact ⟨V.ownBlock.toList, L.more hb _ (fun b hb' => by
      have := h3.lt b (by simpa using hb')
      exact this), h1, h2, own_base0 h3 (Nat.zero_le _), fun g hg => List.mem_append_left _ (by simpa using hg)⟩
set_option maxRecDepth 100000 in
set_option maxHeartbeats 16000000 in
theorem cklaw_picks (conv soft seq size opn : Int) (A1 A2 : Option Addr) (n1 cp1 n2 cp2 : Nat) (xs1 xs2 : List Int) (gen : Int) (A : Option Addr) (NS cs : Nat) (xsp : List Sp) (w : World) (h64 : W64 conv ∧ W64 soft ∧ W64 seq ∧ W64 size ∧ W64 opn) (hm1 : n1 ≤ maxLen) (hl1 : xs1.length = n1) (hx1 : ∀ x ∈ xs1, 0 ≤ x ∧ x < 4294967296) (hr1 : Rd w w.heap.size A1 (u32s xs1)) (hm2 : n2 ≤ maxLen) (hl2 : xs2.length = n2) (hx2 : ∀ x ∈ xs2, 0 ≤ x ∧ x < 4294967296) (hr2 : Rd w w.heap.size A2 (u32s xs2)) (g64 : W64 gen)
    (hms : NS ≤ maxLen) (hls : xsp.length = NS) (hrs : Rd w w.heap.size A (xsp.flatMap spc)) (hxs : ∀ x ∈ xsp, SpIn x) :
    Calls Tryz.prog 3 #[gvl conv soft seq size opn, .slice A1 n1 cp1, .slice A2 n2 cp2, .int .i64 gen, .slice A NS cs] w fun e w' => e = .returned (.bool true) ∧ Below w.heap.size w w' := by
  have QW := Lib.hid fun w' => awake13_any w'
  have QL := Lib.hid fun w' => rcklittle_any conv soft seq size opn w' h64
  have HX1 := Lib.hid (And.intro hl1 (And.intro hx1 hr1))
  have HX2 := Lib.hid (And.intro hl2 (And.intro hx2 hr2))
  have HXs := Lib.hid (And.intro hls (And.intro hrs hxs))
  have hml1 := hm1
  have hml2 := hm2
  have hmls := hms
  unfold maxLen at hml1 hml2 hmls
  clear hl1 hx1 hr1 hl2 hx2 hr2 hm1 hm2 hls hrs hxs hms
  clear h64
  go_enter Tryz.func3, Tryz.ntmps3
  go_wp2_with (first
    | ((with_reducible refine wpList_box_box _ (o := ⟨some 5, .box _ _, _, _, _, _⟩) rfl _ _ rfl (gcl conv soft seq size opn) rfl ?_); go_loud (intro w1 x0 hB0 hs0; have HB := Lib.hid (show Box w1 w.heap.size 23 (gcl conv soft seq size opn) ∧ Below w.heap.size w w1 from ⟨x0, hB0⟩); clear x0 hB0 hs0))
    | fail)
  refine (QW.out _).mono ?_
  rintro e wa ⟨rfl, hba⟩
  replace HB := Lib.hid (show Box wa w.heap.size 23 (gcl conv soft seq size opn) ∧ Below w.heap.size w wa from ⟨HB.out.1.on hba, bthen HB.out.2 hba⟩)
  clear hba
  have c0 : wa.cell? ⟨w.heap.size, 0, none⟩ = some (.int .i64 conv) := HB.out.1.cell 0
  have c1 : wa.cell? ⟨w.heap.size, 1, none⟩ = some (.int .i64 soft) := HB.out.1.cell 1
  have c2 : wa.cell? ⟨w.heap.size, 2, none⟩ = some (.int .i64 seq) := HB.out.1.cell 2
  have c3 : wa.cell? ⟨w.heap.size, 3, none⟩ = some (.int .i64 size) := HB.out.1.cell 3
  have c4 : wa.cell? ⟨w.heap.size, 4, none⟩ = some (.int .i64 opn) := HB.out.1.cell 4
  go_wp2_with fail
  refine (QL.out _).mono ?_
  rintro e wb ⟨rfl, hbb⟩
  replace HB := Lib.hid (show Box wb w.heap.size 23 (gcl conv soft seq size opn) ∧ Below w.heap.size w wb from ⟨HB.out.1.on hbb, bthen HB.out.2 hbb⟩)
  clear hbb c0 c1 c2 c3 c4
  cases hli : littleC conv soft seq size opn with
  | false =>
    go_wp2_with fail
    refine (QW.out _).mono ?_
    rintro e w9 ⟨rfl, hb9⟩
    have H9 := Lib.hid (bthen HB.out.2 hb9)
    clear hb9
    go_wp2
    go_ret
    exact ⟨rfl, H9.out⟩
  | true =>
    have HLi := Lib.hid (little_yes hli)
    clear hli QL
    by_cases h5 : 500 < n1
    · have h5' : (500 : Int) < n1 := by omega
      go_wp2_with fail
      refine (QW.out _).mono ?_
      rintro e w9 ⟨rfl, hb9⟩
      have H9 := Lib.hid (bthen HB.out.2 hb9)
      clear hb9
      go_wp2
      go_ret
      exact ⟨rfl, H9.out⟩
    have h5' : ¬ (500 : Int) < n1 := by omega
    by_cases h6 : 500 < n2
    · have h6' : (500 : Int) < n2 := by omega
      go_wp2_with fail
      refine (QW.out _).mono ?_
      rintro e w9 ⟨rfl, hb9⟩
      have H9 := Lib.hid (bthen HB.out.2 hb9)
      clear hb9
      go_wp2
      go_ret
      exact ⟨rfl, H9.out⟩
    have h6' : ¬ (500 : Int) < n2 := by omega
    by_cases h9 : 20 < NS
    · have h9' : (20 : Int) < NS := by omega
      go_wp2_with fail
      refine (QW.out _).mono ?_
      rintro e w9 ⟨rfl, hb9⟩
      have H9 := Lib.hid (bthen HB.out.2 hb9)
      clear hb9
      go_wp2
      go_ret
      exact ⟨rfl, H9.out⟩
    have h9' : ¬ (20 : Int) < NS := by omega
    by_cases h7 : gen < 1
    · go_wp2_with fail
      refine (QW.out _).mono ?_
      rintro e w9 ⟨rfl, hb9⟩
      have H9 := Lib.hid (bthen HB.out.2 hb9)
      clear hb9
      go_wp2
      go_ret
      exact ⟨rfl, H9.out⟩

    by_cases h8 : 549755813888 < gen
    · go_wp2_with fail
      refine (QW.out _).mono ?_
      rintro e w9 ⟨rfl, hb9⟩
      have H9 := Lib.hid (bthen HB.out.2 hb9)
      clear hb9
      go_wp2
      go_ret
      exact ⟨rfl, H9.out⟩

    obtain ⟨n, P, M⟩ := msr_of HLi.out.1
    have hP9 := M.little HLi.out.2.1 HLi.out.2.2.1
    have HM := Lib.hid (And.intro M hP9)
    have HHk : Hid ((((conv + seq).toNat : Nat) : Int) = conv + seq) := Lib.hid (by have h1 := M.ok.1; have h2 := M.ok.2.1; omega)
    clear M hP9
    have hw1 : IntKind.i64.wrap (gen + 1) = gen + 1 := IntWalk.i64_in _ (by omega)
    have HR1 := Lib.hid (head_yes (gen := gen) (epoch := 3) (sq := 4) (P := P) (by omega) (by decide) (by decide) (by have := HM.out.2; omega))
    have HR2 := Lib.hid (head_yes (gen := gen + 1) (epoch := 3) (sq := 5) (P := P) (by omega) (by decide) (by decide) (by have := HM.out.2; omega))
    have HH1 := Lib.hid (lw_head HM.out.1 gen 3 4)
    have HH2 := Lib.hid (lw_head HM.out.1 (gen + 1) 3 5)
    generalize hdM gen 3 4 (P : Int) = m1 at HR1 HH1
    generalize hdM (gen + 1) 3 5 (P : Int) = m2 at HR2 HH2
    have ht1 := tabOk_of (n := n) HX1.out.2.1
    have ht2 := tabOk_of (n := n) HX2.out.2.1
    have HT1 := Lib.hid fun (A : Option Addr) (c : Nat) (W : World) (hr : Rd W W.heap.size A (u32s xs1)) => lw_table HM.out.1 n1 c A xs1 W HX1.out.1 HX1.out.2.1 hr
    have HT2 := Lib.hid fun (A : Option Addr) (c : Nat) (W : World) (hr : Rd W W.heap.size A (u32s xs2)) => lw_table HM.out.1 n2 c A xs2 W HX2.out.1 HX2.out.2.1 hr
    generalize tabY n xs1 = ys1 at ht1 HT1
    generalize tabY n xs2 = ys2 at ht2 HT2
    have sd0 := sd_new (k := (conv + seq).toNat) HM.out.1 HHk.out
    obtain ⟨D1, D2, e1, sd1, e2, sd2⟩ := two_core sd0 (by have := HM.out.2; omega) HM.out.1.hP HR1.out.1 ht1 HR2.out.1 ht2
    have HSD0 := Lib.hid sd0
    have HSD1 := Lib.hid sd1
    have HUp2 : Hid (Up (2 * P + 8 + 0) P D2) := Lib.hid (by have h := sd2.upp; rwa [show 0 + P + 4 + P + 4 = 2 * P + 8 + 0 by omega] at h)
    have HE1 := Lib.hid e1
    have HE2 := Lib.hid e2
    have HNar1 := Lib.hid ht1.nar
    have HNar2 := Lib.hid ht2.nar
    have HNm : Hid (n ≤ maxLen) := Lib.hid (by have := HM.out.1.n4; unfold maxLen; omega)
    clear sd0 sd1 sd2 e1 e2 ht1 ht2
    generalize hD0 : newD conv soft seq size opn (conv + seq).toNat = D0 at HSD0 HE1
    have HD0 := Lib.hid hD0
    clear hD0
    obtain ⟨m6, hm6, hsz6⟩ := big_size (P := Tryz.prog) (t := 43) (s := 64) (by kernel_rfl)
    have hm60 : ¬ m6 = 0 := by omega
    have HM6 := Lib.hid hm6
    clear hm6
    obtain ⟨mr, hmr, hszr⟩ := big_size (P := Tryz.prog) (t := 34) (s := 6) (by kernel_rfl)
    have hmr0 : ¬ mr = 0 := by omega
    have HMr := Lib.hid hmr
    clear hmr
    have LA := Lib.hid fun (W : World) (b : Nat) (x : Mast.Mst) (h : Box W b 34 (mcs x)) => big_load0 Tryz.prog b 0 (mcs x) mr (by rw [mcs_length, HMr.out]) W h.range0
    have c0 : wb.cell? ⟨w.heap.size, 0, none⟩ = some (.int .i64 conv) := HB.out.1.cell 0
    have c1 : wb.cell? ⟨w.heap.size, 1, none⟩ = some (.int .i64 soft) := HB.out.1.cell 1
    have c2 : wb.cell? ⟨w.heap.size, 2, none⟩ = some (.int .i64 seq) := HB.out.1.cell 2
    have c3 : wb.cell? ⟨w.heap.size, 3, none⟩ = some (.int .i64 size) := HB.out.1.cell 3
    have c4 : wb.cell? ⟨w.heap.size, 4, none⟩ = some (.int .i64 opn) := HB.out.1.cell 4
    go_wp2_with fail
    refine (lw_new HM.out.1 (w := w) (X := [w.heap.size]) HB.out.1 HB.out.2 (by have h1 := HB.out.1.lt; intro b hb; simp at hb; omega) (by simp)).mono ?_
    rintro e w3 ⟨d, rfl, hL, hb3⟩
    rw [HD0.out] at hL
    have L3 := Lib.hid hL
    clear hL hb3 HB HD0 c0 c1 c2 c3 c4
    have HAl := Lib.hid fun (W : World) (X : List Nat) (k : Nat) (D : Dv) (odd : Int) (hU : Up k P D) (ho : 0 ≤ odd ∧ odd ≤ 1) (h : DvSt w W X d D) => rckall_any (T := TX w.heap.size X) conv soft seq size opn odd P (P + 2) HM.out.1.ok.some HM.out.1.hPg rfl ho h.hT hU.n.ok hU.up hU.so h.1
    go_wp2_with fail
    refine wp_region_held_drew (S := (fun w' => w'.cell? ⟨w.heap.size, 0, none⟩ = some (.int .i64 conv) ∧ w'.cell? ⟨w.heap.size, 1, none⟩ = some (.int .i64 soft) ∧ w'.cell? ⟨w.heap.size, 2, none⟩ = some (.int .i64 seq) ∧ w'.cell? ⟨w.heap.size, 3, none⟩ = some (.int .i64 size) ∧ w'.cell? ⟨w.heap.size, 4, none⟩ = some (.int .i64 opn))) (by kernel_rfl) ((L3.out.on (Below.refl _ _).drew).cells) (fun hHeld => ?_)
    refine wpAnyH_take (i := 0) (oi := ⟨some 59, .move _, _, _, _, _⟩) (v := ?v158) rfl (by kernel_rfl) (by kernel_rfl) (by kernel_rfl) (fun _ _ _ h => h) (Or.inl ⟨by rfl, ?hy158⟩) (by assumption) ?rest158
    case hy158 =>
      intro w hSw

      go_simp
      try with_reducible rfl
    try simp only [Act.put, List.setIfInBounds_toArray, List.set_cons_zero, List.set_cons_succ]
    refine wpAnyH_take (i := 1) (oi := ⟨some 60, .load _ _, _, _, _, _⟩) (v := ?v159) rfl (by kernel_rfl) (by kernel_rfl) (by kernel_rfl) (fun _ _ _ h => h) (Or.inl ⟨by rfl, ?hy159⟩) (by assumption) ?rest159
    case hy159 =>
      intro w hSw
      obtain ⟨hS0, hS1, hS2, hS3, hS4⟩ := hSw
      go_simp
      try with_reducible rfl
    try simp only [Act.put, List.setIfInBounds_toArray, List.set_cons_zero, List.set_cons_succ]
    refine wpAnyH_take (i := 2) (oi := ⟨some 61, .load _ _, _, _, _, _⟩) (v := ?v160) rfl (by kernel_rfl) (by kernel_rfl) (by kernel_rfl) (fun _ _ _ h => h) (Or.inl ⟨by rfl, ?hy160⟩) (by assumption) ?rest160
    case hy160 =>
      intro w hSw
      obtain ⟨hS0, hS1, hS2, hS3, hS4⟩ := hSw
      go_simp
      try with_reducible rfl
    try simp only [Act.put, List.setIfInBounds_toArray, List.set_cons_zero, List.set_cons_succ]
    refine wpAnyH_take (i := 3) (oi := ⟨some 62, .move _, _, _, _, _⟩) (v := ?v161) rfl (by kernel_rfl) (by kernel_rfl) (by kernel_rfl) (fun _ _ _ h => h) (Or.inl ⟨by rfl, ?hy161⟩) (by assumption) ?rest161
    case hy161 =>
      intro w hSw

      go_simp
      try with_reducible rfl
    try simp only [Act.put, List.setIfInBounds_toArray, List.set_cons_zero, List.set_cons_succ]
    refine wpAnyH_take (i := 5) (oi := ⟨some 64, .load _ _, _, _, _, _⟩) (v := ?v162) rfl (by kernel_rfl) (by kernel_rfl) (by kernel_rfl) (fun _ _ _ h => h) (Or.inl ⟨by rfl, ?hy162⟩) (by assumption) ?rest162
    case hy162 =>
      intro w hSw
      obtain ⟨hS0, hS1, hS2, hS3, hS4⟩ := hSw
      go_simp
      try with_reducible rfl
    try simp only [Act.put, List.setIfInBounds_toArray, List.set_cons_zero, List.set_cons_succ]
    refine wpAnyH_take (i := 6) (oi := ⟨some 65, .move _, _, _, _, _⟩) (v := ?v163) rfl (by kernel_rfl) (by kernel_rfl) (by kernel_rfl) (fun _ _ _ h => h) (Or.inl ⟨by rfl, ?hy163⟩) (by assumption) ?rest163
    case hy163 =>
      intro w hSw

      go_simp
      try with_reducible rfl
    try simp only [Act.put, List.setIfInBounds_toArray, List.set_cons_zero, List.set_cons_succ]
    refine wpAnyH_ready (rs := [4]) (by kernel_rfl) (by simp) ?_
    refine AllReadyH.cons (o := ⟨some 63, .call _, _, _, _, _⟩) rfl (fun K hK => ?_) AllReadyH.nil
    go_simp
    refine (HH1.out _).mono ?_
    rintro e y1 ⟨rfl, b1⟩
    have LY1 := Lib.hid (L3.out.on (bthen (Below.refl _ _).drew b1))
    clear b1 L3
    go_wp2_with fail
    clear hHeld
    refine hK.out _ _ (LY1.out.cells) (fun hHeld => ?_)
    clear hK K
    try simp only [Act.put, List.setIfInBounds_toArray, List.set_cons_zero, List.set_cons_succ]
    refine wpAnyH_ready (rs := [7]) (by kernel_rfl) (by simp) ?_
    refine AllReadyH.cons (o := ⟨some 66, .call _, _, _, _, _⟩) rfl (fun K hK => ?_) AllReadyH.nil
    go_simp
    refine (HT1.out A1 cp1 _ ((HX1.out.2.2.below LY1.out.dv.2.1).more LY1.out.dv.2.1.size)).mono ?_
    rintro e y2 ⟨t1, g1, h1, ds1, rfl, hT, hbd, b2⟩
    have LY2 := Lib.hid (LY1.out.more b2 [t1, g1, h1] hbd)
    have TY2 := Lib.hid hT
    clear hT hbd b2 LY1
    go_wp2_with fail
    clear hHeld
    refine hK.out _ _ (LY2.out.cells) (fun hHeld => ?_)
    clear hK K
    try simp only [Act.put, List.setIfInBounds_toArray, List.set_cons_zero, List.set_cons_succ]
    refine wpAnyH_ready (rs := [8]) (by kernel_rfl) (by simp) ?_
    refine AllReadyH.cons (o := ⟨some 67, .call _, _, _, _, _⟩) rfl (fun K hK => ?_) AllReadyH.nil
    go_simp
    refine (lw_write HM.out.1 LY2.out m1 HSD0.out.n (by have := HM.out.2; omega) TY2.out (by simp) HNar1.out HR1.out.2).mono ?_
    rintro e y3 ⟨rfl, hl, hF⟩
    rw [HE1.out] at hl ⊢
    have L4 := Lib.hid (hl.less (X := [w.heap.size]) (by simp) (by simp))
    clear hl hF LY2 TY2
    go_wp2_with fail
    clear hHeld
    refine hK.out _ _ (L4.out.cells) (fun hHeld => ?_)
    clear hK K
    try simp only [Act.put, List.setIfInBounds_toArray, List.set_cons_zero, List.set_cons_succ]
    refine wpAnyH_take (i := 9) (oi := ⟨some 68, .binOp _ _ _ _ _, _, _, _, _⟩) (v := ?v164) rfl (by kernel_rfl) (by kernel_rfl) (by kernel_rfl) (fun _ _ _ h => h) (Or.inl ⟨by rfl, ?hy164⟩) (by assumption) ?rest164
    case hy164 =>
      intro w hSw

      go_simp
      try with_reducible rfl
    try simp only [Act.put, List.setIfInBounds_toArray, List.set_cons_zero, List.set_cons_succ]
    refine wpAnyH_take (i := 10) (oi := ⟨some 69, .move _, _, _, _, _⟩) (v := ?v165) rfl (by kernel_rfl) (by kernel_rfl) (by kernel_rfl) (fun _ _ _ h => h) (Or.inl ⟨by rfl, ?hy165⟩) (by assumption) ?rest165
    case hy165 =>
      intro w hSw

      go_simp
      try with_reducible rfl
    try simp only [Act.put, List.setIfInBounds_toArray, List.set_cons_zero, List.set_cons_succ]
    refine wpAnyH_take (i := 11) (oi := ⟨some 70, .move _, _, _, _, _⟩) (v := ?v166) rfl (by kernel_rfl) (by kernel_rfl) (by kernel_rfl) (fun _ _ _ h => h) (Or.inl ⟨by rfl, ?hy166⟩) (by assumption) ?rest166
    case hy166 =>
      intro w hSw

      go_simp
      try with_reducible rfl
    try simp only [Act.put, List.setIfInBounds_toArray, List.set_cons_zero, List.set_cons_succ]
    refine wpAnyH_take (i := 12) (oi := ⟨some 71, .load _ _, _, _, _, _⟩) (v := ?v167) rfl (by kernel_rfl) (by kernel_rfl) (by kernel_rfl) (fun _ _ _ h => h) (Or.inl ⟨by rfl, ?hy167⟩) (by assumption) ?rest167
    case hy167 =>
      intro w hSw
      obtain ⟨hS0, hS1, hS2, hS3, hS4⟩ := hSw
      go_simp
      try with_reducible rfl
    try simp only [Act.put, List.setIfInBounds_toArray, List.set_cons_zero, List.set_cons_succ]
    refine wpAnyH_take (i := 13) (oi := ⟨some 72, .load _ _, _, _, _, _⟩) (v := ?v168) rfl (by kernel_rfl) (by kernel_rfl) (by kernel_rfl) (fun _ _ _ h => h) (Or.inl ⟨by rfl, ?hy168⟩) (by assumption) ?rest168
    case hy168 =>
      intro w hSw
      obtain ⟨hS0, hS1, hS2, hS3, hS4⟩ := hSw
      go_simp
      try with_reducible rfl
    try simp only [Act.put, List.setIfInBounds_toArray, List.set_cons_zero, List.set_cons_succ]
    refine wpAnyH_take (i := 14) (oi := ⟨some 73, .move _, _, _, _, _⟩) (v := ?v169) rfl (by kernel_rfl) (by kernel_rfl) (by kernel_rfl) (fun _ _ _ h => h) (Or.inl ⟨by rfl, ?hy169⟩) (by assumption) ?rest169
    case hy169 =>
      intro w hSw

      go_simp
      try with_reducible rfl
    try simp only [Act.put, List.setIfInBounds_toArray, List.set_cons_zero, List.set_cons_succ]
    refine wpAnyH_take (i := 15) (oi := ⟨some 74, .binOp _ _ _ _ _, _, _, _, _⟩) (v := ?v170) rfl (by kernel_rfl) (by kernel_rfl) (by kernel_rfl) (fun _ _ _ h => h) (Or.inl ⟨by rfl, ?hy170⟩) (by assumption) ?rest170
    case hy170 =>
      intro w hSw

      go_simp
      try with_reducible rfl
    try simp only [Act.put, List.setIfInBounds_toArray, List.set_cons_zero, List.set_cons_succ]
    refine wpAnyH_take (i := 17) (oi := ⟨some 76, .load _ _, _, _, _, _⟩) (v := ?v171) rfl (by kernel_rfl) (by kernel_rfl) (by kernel_rfl) (fun _ _ _ h => h) (Or.inl ⟨by rfl, ?hy171⟩) (by assumption) ?rest171
    case hy171 =>
      intro w hSw
      obtain ⟨hS0, hS1, hS2, hS3, hS4⟩ := hSw
      go_simp
      try with_reducible rfl
    try simp only [Act.put, List.setIfInBounds_toArray, List.set_cons_zero, List.set_cons_succ]
    refine wpAnyH_take (i := 18) (oi := ⟨some 77, .move _, _, _, _, _⟩) (v := ?v172) rfl (by kernel_rfl) (by kernel_rfl) (by kernel_rfl) (fun _ _ _ h => h) (Or.inl ⟨by rfl, ?hy172⟩) (by assumption) ?rest172
    case hy172 =>
      intro w hSw

      go_simp
      try with_reducible rfl
    try simp only [Act.put, List.setIfInBounds_toArray, List.set_cons_zero, List.set_cons_succ]
    refine wpAnyH_ready (rs := [16]) (by kernel_rfl) (by simp) ?_
    refine AllReadyH.cons (o := ⟨some 75, .call _, _, _, _, _⟩) rfl (fun K hK => ?_) AllReadyH.nil
    go_simp
    refine (HH2.out _).mono ?_
    rintro e y4 ⟨rfl, b1⟩
    have LY5 := Lib.hid (L4.out.on b1)
    clear b1 L4
    go_wp2_with fail
    clear hHeld
    refine hK.out _ _ (LY5.out.cells) (fun hHeld => ?_)
    clear hK K
    try simp only [Act.put, List.setIfInBounds_toArray, List.set_cons_zero, List.set_cons_succ]
    refine wpAnyH_ready (rs := [19]) (by kernel_rfl) (by simp) ?_
    refine AllReadyH.cons (o := ⟨some 78, .call _, _, _, _, _⟩) rfl (fun K hK => ?_) AllReadyH.nil
    go_simp
    refine (HT2.out A2 cp2 _ ((HX2.out.2.2.below LY5.out.dv.2.1).more LY5.out.dv.2.1.size)).mono ?_
    rintro e y5 ⟨t2, g2, h2, ds2, rfl, hT, hbd, b2⟩
    have LY6 := Lib.hid (LY5.out.more b2 [t2, g2, h2] hbd)
    have TY6 := Lib.hid hT
    clear hT hbd b2 LY5
    go_wp2_with fail
    clear hHeld
    refine hK.out _ _ (LY6.out.cells) (fun hHeld => ?_)
    clear hK K
    try simp only [Act.put, List.setIfInBounds_toArray, List.set_cons_zero, List.set_cons_succ]
    refine wpAnyH_ready (rs := [20]) (by kernel_rfl) (by simp) ?_
    refine AllReadyH.cons (o := ⟨some 79, .call _, _, _, _, _⟩) rfl (fun K hK => ?_) AllReadyH.nil
    go_simp
    refine (lw_write HM.out.1 LY6.out m2 HSD1.out.n (by have := HM.out.2; omega) TY6.out (by simp) HNar2.out HR2.out.2).mono ?_
    rintro e y6 ⟨rfl, hl, hF⟩
    rw [HE2.out] at hl ⊢
    have L5 := Lib.hid (hl.less (X := [w.heap.size]) (by simp) (by simp))
    clear hl hF LY6 TY6
    go_wp2_with fail
    clear hHeld
    refine hK.out _ _ (L5.out.cells) (fun hHeld => ?_)
    clear hK K
    try simp only [Act.put, List.setIfInBounds_toArray, List.set_cons_zero, List.set_cons_succ]
    refine wpAnyH_take (i := 21) (oi := ⟨some 80, .binOp _ _ _ _ _, _, _, _, _⟩) (v := ?v173) rfl (by kernel_rfl) (by kernel_rfl) (by kernel_rfl) (fun _ _ _ h => h) (Or.inl ⟨by rfl, ?hy173⟩) (by assumption) ?rest173
    case hy173 =>
      intro w hSw

      go_simp
      try with_reducible rfl
    try simp only [Act.put, List.setIfInBounds_toArray, List.set_cons_zero, List.set_cons_succ]
    refine wpAnyH_take (i := 22) (oi := ⟨some 81, .pick _ _ _, _, _, _, _⟩) (v := ?v174) rfl (by kernel_rfl) (by kernel_rfl) (by kernel_rfl) (fun _ _ _ h => h) (Or.inl ⟨by rfl, ?hy174⟩) (by assumption) ?rest174
    case hy174 =>
      intro w hSw

      go_simp
      try with_reducible rfl
    try simp only [Act.put, List.setIfInBounds_toArray, List.set_cons_zero, List.set_cons_succ]
    refine wpAnyH_done (by kernel_rfl) ?_ _
    clear hHeld
    have HI0 := Lib.hid (And.intro HUp2.out L5.out)
    clear HUp2 L5 HSD0 HSD1 HE1 HE2 HNar1 HNar2 HT1 HT2 HH1 HH2 HR1 HR2 HX1 HX2 hw1
    go_wp2_with fail
    go_loopw [12] (fun i wr => ∃ (k : Nat) (D : Dv), k ≤ NS ∧ i = .int .i64 k ∧ Up (2 * P + 8 + k) P D ∧ LwSt w wr [w.heap.size] d D (gcl conv soft seq size opn)) (fun i _ => NS - (intOf i).toNat)
    case atStart => exact ⟨0, D2, by omega, rfl, HI0.out.1, HI0.out.2⟩
    case round =>
      clear HI0
      obtain ⟨k, D, hk, rfl, hup, hL⟩ := hrel
      have HUp := Lib.hid hup
      have L5 := Lib.hid hL
      clear hup hL
      by_cases hlt : k < NS
      · obtain ⟨x, hxk⟩ : ∃ x, xsp[k]? = some x := ⟨xsp[k]'(by rw [HXs.out.1]; exact hlt), List.getElem?_eq_getElem _⟩
        have HSp := Lib.hid (HXs.out.2.2 x (List.mem_of_getElem? hxk))
        obtain ⟨ad, rfl, hcl⟩ := sp_at HXs.out.2.1 hxk
        have HCl := Lib.hid fun (W : World) (hb : Below w.heap.size w W) => hcl W fun p hp => hb.cell hp
        clear hcl hxk
        obtain ⟨xo, xs1b, xs2b, xs3b⟩ := x
        have hs10 : 0 ≤ xs1b := HSp.out.1.1
        have hs11 : xs1b ≤ 255 := HSp.out.1.2
        have hs20 : 0 ≤ xs2b := HSp.out.2.1.1
        have hs21 : xs2b ≤ 255 := HSp.out.2.1.2
        have hs30 : 0 ≤ xs3b := HSp.out.2.2.1
        have hs31 : xs3b ≤ 255 := HSp.out.2.2.2
        have hN0 : ¬ ((P + 2 : Nat) : Int) = 0 := by omega
        obtain ⟨i, hi⟩ : ∃ i : Nat, (i : Int) = xs1b % ((P + 2 : Nat) : Int) := ⟨(xs1b % ((P + 2 : Nat) : Int)).toNat, by have := Int.emod_nonneg xs1b hN0; omega⟩
        have HI : Hid (i < P + 2) := Lib.hid (by have := Int.emod_lt_of_pos xs1b (show (0 : Int) < ((P + 2 : Nat) : Int) by omega); omega)
        have hmod : xs1b.tmod ((P : Int) + 2) = (i : Int) := by rw [Int.tmod_eq_emod_of_nonneg hs10, show (P : Int) + 2 = ((P + 2 : Nat) : Int) by omega]; exact hi.symm
        have hcv1 : IntKind.i64.wrap xs1b = xs1b := IntWalk.i64_in _ (by omega)
        have hcv2 : IntKind.i64.wrap xs2b = xs2b := IntWalk.i64_in _ (by omega)
        have hN1 : ¬ (P : Int) + 2 = 0 := by omega
        obtain ⟨j, hj⟩ : ∃ j : Nat, (j : Int) = xs2b % 64 := ⟨(xs2b % 64).toNat, by omega⟩
        have HJ : Hid (j < 64) := Lib.hid (by omega)
        have hmod2 : xs2b.tmod 64 = (j : Int) := by rw [Int.tmod_eq_emod_of_nonneg hs20]; exact hj.symm
        have HK : Hid (2 * P + 8 + k + 1 ≤ 500) := Lib.hid (by have := HM.out.2; omega)
        have HAt := Lib.hid fun (odd : Int) (ho : 0 ≤ odd ∧ odd ≤ 1) (W : World) => (by
          have h := rckat_any odd (i : Int) W (by omega) (by have := HI.out; have := HM.out.2; omega) ho.1
          rwa [show odd % 2 = odd by omega] at h : Calls Tryz.prog 12 #[.int .i64 odd, .int .i64 (i : Int)] W fun e w' => e = .returned (.agg #[.int .i64 (plZ odd), .int .i64 (plO odd + (i : Int))]) ∧ Below W.heap.size W w')
        clear hi hj
        cases xo with
        | false =>
          have hcr := (HCl.out _ L5.out.dv.2.1).1
          go_wp2_with fail
          clear hcr
          refine wp_region_held_drew (S := (fun w' => w'.cell? ⟨(ad.add (k * 4)).block, (ad.add (k * 4)).off + 1, none⟩ = some (.int .u8 xs1b) ∧ w'.cell? ⟨w.heap.size, 0, none⟩ = some (.int .i64 conv) ∧ w'.cell? ⟨w.heap.size, 1, none⟩ = some (.int .i64 soft) ∧ w'.cell? ⟨w.heap.size, 2, none⟩ = some (.int .i64 seq) ∧ w'.cell? ⟨w.heap.size, 3, none⟩ = some (.int .i64 size) ∧ w'.cell? ⟨w.heap.size, 4, none⟩ = some (.int .i64 opn))) (by kernel_rfl) (⟨(HCl.out _ (L5.out.on (Below.refl _ _).drew).dv.2.1).2.1, (L5.out.on (Below.refl _ _).drew).cells⟩) (fun hHeld => ?_)
          refine wpAnyH_take (i := 0) (oi := ⟨some 93, .move _, _, _, _, _⟩) (v := ?v175) rfl (by kernel_rfl) (by kernel_rfl) (by kernel_rfl) (fun _ _ _ h => h) (Or.inl ⟨by rfl, ?hy175⟩) (by assumption) ?rest175
          case hy175 =>
            intro w9 hSw

            go_simp
            try with_reducible rfl
          try simp only [Act.put, List.setIfInBounds_toArray, List.set_cons_zero, List.set_cons_succ]
          refine wpAnyH_take (i := 1) (oi := ⟨some 94, .move _, _, _, _, _⟩) (v := ?v176) rfl (by kernel_rfl) (by kernel_rfl) (by kernel_rfl) (fun _ _ _ h => h) (Or.inl ⟨by rfl, ?hy176⟩) (by assumption) ?rest176
          case hy176 =>
            intro w9 hSw

            go_simp
            try with_reducible rfl
          try simp only [Act.put, List.setIfInBounds_toArray, List.set_cons_zero, List.set_cons_succ]
          refine wpAnyH_take (i := 2) (oi := ⟨some 95, .indexAddr _ _ _, _, _, _, _⟩) (v := ?v177) rfl (by kernel_rfl) (by kernel_rfl) (by kernel_rfl) (fun _ _ _ h => h) (Or.inl ⟨by rfl, ?hy177⟩) (by assumption) ?rest177
          case hy177 =>
            intro w9 hSw

            go_simp
            try with_reducible rfl
          try simp only [Act.put, List.setIfInBounds_toArray, List.set_cons_zero, List.set_cons_succ]
          refine wpAnyH_take (i := 3) (oi := ⟨some 96, .fieldAddr _ _ _, _, _, _, _⟩) (v := ?v178) rfl (by kernel_rfl) (by kernel_rfl) (by kernel_rfl) (fun _ _ _ h => h) (Or.inl ⟨by rfl, ?hy178⟩) (by assumption) ?rest178
          case hy178 =>
            intro w9 hSw

            go_simp
            try with_reducible rfl
          try simp only [Act.put, List.setIfInBounds_toArray, List.set_cons_zero, List.set_cons_succ]
          refine wpAnyH_take (i := 4) (oi := ⟨some 97, .load _ _, _, _, _, _⟩) (v := ?v179) rfl (by kernel_rfl) (by kernel_rfl) (by kernel_rfl) (fun _ _ _ h => h) (Or.inl ⟨by rfl, ?hy179⟩) (by assumption) ?rest179
          case hy179 =>
            intro w9 hSw
            obtain ⟨hcr, _⟩ := hSw
            go_simp
            try with_reducible rfl
          try simp only [Act.put, List.setIfInBounds_toArray, List.set_cons_zero, List.set_cons_succ]
          refine wpAnyH_take (i := 5) (oi := ⟨some 98, .convert _ _ _, _, _, _, _⟩) (v := ?v180) rfl (by kernel_rfl) (by kernel_rfl) (by kernel_rfl) (fun _ _ _ h => h) (Or.inl ⟨by rfl, ?hy180⟩) (by assumption) ?rest180
          case hy180 =>
            intro w9 hSw

            go_simp
            try with_reducible rfl
          try simp only [Act.put, List.setIfInBounds_toArray, List.set_cons_zero, List.set_cons_succ]
          refine wpAnyH_take (i := 6) (oi := ⟨some 99, .move _, _, _, _, _⟩) (v := ?v181) rfl (by kernel_rfl) (by kernel_rfl) (by kernel_rfl) (fun _ _ _ h => h) (Or.inl ⟨by rfl, ?hy181⟩) (by assumption) ?rest181
          case hy181 =>
            intro w9 hSw

            go_simp
            try with_reducible rfl
          try simp only [Act.put, List.setIfInBounds_toArray, List.set_cons_zero, List.set_cons_succ]
          refine wpAnyH_take (i := 7) (oi := ⟨some 100, .load _ _, _, _, _, _⟩) (v := ?v182) rfl (by kernel_rfl) (by kernel_rfl) (by kernel_rfl) (fun _ _ _ h => h) (Or.inl ⟨by rfl, ?hy182⟩) (by assumption) ?rest182
          case hy182 =>
            intro w9 hSw
            obtain ⟨_, hS0, hS1, hS2, hS3, hS4⟩ := hSw
            go_simp
            try with_reducible rfl
          try simp only [Act.put, List.setIfInBounds_toArray, List.set_cons_zero, List.set_cons_succ]
          refine wpAnyH_take (i := 8) (oi := ⟨some 101, .move _, _, _, _, _⟩) (v := ?v183) rfl (by kernel_rfl) (by kernel_rfl) (by kernel_rfl) (fun _ _ _ h => h) (Or.inl ⟨by rfl, ?hy183⟩) (by assumption) ?rest183
          case hy183 =>
            intro w9 hSw

            go_simp
            try with_reducible rfl
          try simp only [Act.put, List.setIfInBounds_toArray, List.set_cons_zero, List.set_cons_succ]
          refine wpAnyH_ready (rs := [9]) (by kernel_rfl) (by simp) ?_
          refine AllReadyH.cons (o := ⟨some 102, .call _, _, _, _, _⟩) rfl (fun K hK => ?_) AllReadyH.nil
          go_simp
          refine (HAl.out _ _ _ _ 0 HUp.out (by decide) (L5.out.on (Below.refl _ _).drew).dv).mono ?_
          rintro e y1 ⟨V, rfl, hrow, hI, hF⟩
          obtain ⟨AV, cV, rfl⟩ := own_slice hrow
          have L6 := Lib.hid ((L5.out.on (Below.refl _ _).drew).put hI hF)
          clear hrow hI hF L5
          go_wp2_with fail
          clear hHeld
          refine hK.out _ _ (⟨(HCl.out _ L6.out.dv.2.1).2.1, L6.out.cells⟩) (fun hHeld => ?_)
          clear hK K
          try simp only [Act.put, List.setIfInBounds_toArray, List.set_cons_zero, List.set_cons_succ]
          refine wpAnyH_take (i := 10) (oi := ⟨some 103, .call _, _, _, _, _⟩) (v := ?v184) rfl (by kernel_rfl) (by kernel_rfl) (by kernel_rfl) (fun _ _ _ h => h) (Or.inl ⟨by rfl, ?hy184⟩) (by assumption) ?rest184
          case hy184 =>
            intro w9 hSw

            go_simp
            try with_reducible rfl
          try simp only [Act.put, List.setIfInBounds_toArray, List.set_cons_zero, List.set_cons_succ]
          refine wpAnyH_take (i := 11) (oi := ⟨some 104, .binOp _ _ _ _ _, _, _, _, _⟩) (v := ?v185) rfl (by kernel_rfl) (by kernel_rfl) (by kernel_rfl) (fun _ _ _ h => h) (Or.inl ⟨by rfl, ?hy185⟩) (by assumption) ?rest185
          case hy185 =>
            intro w9 hSw

            go_simp
            try with_reducible rfl
          try simp only [Act.put, List.setIfInBounds_toArray, List.set_cons_zero, List.set_cons_succ]
          refine wpAnyH_take (i := 12) (oi := ⟨some 14, .assign _, _, _, _, _⟩) (v := ?v186) rfl (by kernel_rfl) (by kernel_rfl) (by kernel_rfl) (fun _ _ _ h => h) (Or.inl ⟨by rfl, ?hy186⟩) (by assumption) ?rest186
          case hy186 =>
            intro w9 hSw

            go_simp
            try with_reducible rfl
          try simp only [Act.put, List.setIfInBounds_toArray, List.set_cons_zero, List.set_cons_succ]
          refine wpAnyH_done (by kernel_rfl) ?_ _
          clear hHeld
          go_wp2_with fail
          have HAz := Lib.hid (HAt.out 0 (by decide))
          refine (HAz.out _).mono ?_
          rintro e wa ⟨rfl, ba⟩
          have L7 := Lib.hid (L6.out.on ba)
          clear ba L6
          have HUr := Lib.hid (up_read HUp.out (odd := 0) HI.out)
          have HUp0 := Lib.hid (up_place HUp.out (odd := 0) HI.out)
          have HWr := Lib.hid (fun (p : List Int) (h1 : p.length = 64) (h2 : octets p) => up_write HUp.out (by have := HK.out; omega) (odd := 0) HI.out h1 h2)
          have HPp := Lib.hid (And.intro (page_len HUp.out.n.ok (plZ 0, plO 0 + (i : Int))) (page_oct HUp.out.n.ok HUp.out.od (plZ 0, plO 0 + (i : Int))))
          have HW6 : Hid (W64 (plZ 0) ∧ W64 (plO 0 + (i : Int))) := Lib.hid (by have h1 := plZ_in 0; have h2 := plO_in 0; have h3 := HI.out; have h4 := HM.out.2; exact ⟨w64 (by omega) (by omega), w64 (by omega) (by omega)⟩)
          generalize plZ 0 = z at *
          generalize plO 0 + (i : Int) = o at *
          have HRd := Lib.hid (read_any (T := TX w.heap.size [w.heap.size]) (z, o) HW6.out L7.out.dv.hT HUp.out.n.ok L7.out.dv.1)
          rw [HUr.out] at HRd
          generalize pageD D (z, o) = p at *
          go_wp2_with fail
          refine HRd.out.mono ?_
          rintro e wb ⟨rfl, hI, hF⟩
          have L8 := Lib.hid (L7.out.put hI hF)
          clear hI hF L7 HRd HUr
          have hp8 := HPp.out.1
          go_wp2_with (first
            | ((with_reducible refine wpList_pg_alloc (o := ⟨some 15, .alloc _, _, _, _, _⟩) rfl rfl ?_); intro wc xc hBc hsc)
            | ((with_reducible refine wpList_pg_store (o := ⟨none, .store _ (.tmp 15) _, _, _, _, _⟩) rfl _ _ rfl wb.heap.size p pg0 hp8 rfl rfl rfl xc ?_); go_loud (intro wd xd hgd hsd; have KD := Lib.hid (below_stored hBc hgd hBc.size (Nat.le_refl _)); have XD := Lib.hid xd; clear xc hBc hsc xd hgd hsd))
            | fail)
          have hj0 : ¬ j ≥ 64 := by have := HJ.out; omega
          have hji : (j : Int) < 64 := by have := HJ.out; omega
          have hjz : (0 : Int) ≤ (j : Int) := by omega
          obtain ⟨c8, hc8⟩ : ∃ c8, p.getD j 0 = c8 := ⟨_, rfl⟩
          have HC8 := Lib.hid hc8
          clear hc8
          refine wp_region_class_tail (fun w' => Below wd.heap.size wd w') 16 (by kernel_rfl) (by kernel_rfl) (Below.refl _ _).drew ?_
          intro X hX f hf hg
          have cr2 := fun x => (HCl.out _ (bthen (bthen L8.out.dv.2.1 KD.out) (hf x))).2.2.1
          have cr3 := fun x => (HCl.out _ (bthen (bthen L8.out.dv.2.1 KD.out) (hf x))).2.2.2
          have cp : ∀ x, (f x).cell? ⟨wb.heap.size, j, none⟩ = some (.int .u8 c8) := fun x => by have h := ((XD.out.on (hf x)).cell j).trans (bs_get (by rw [HPp.out.1]; exact HJ.out)); rwa [HC8.out] at h
          have Hf := Lib.hid hf
          have Hg := Lib.hid hg
          clear hf hg
          simp only [List.take_succ_cons, List.take_zero, List.drop_succ_cons, List.drop_zero]
          repeat (go_big_quiet_step (fail))
          refine wpQuiet_nil ?_
          rintro _ ⟨x, rfl⟩
          have KE := Lib.hid (bthen KD.out (Hf.out x))
          have XE := Lib.hid (XD.out.on (Hf.out x))
          clear cr2 cr3 cp Hf Hg hX KD XD
          generalize f x = we at KE XE ⊢
          have cp : we.cell? ⟨wb.heap.size, j, none⟩ = some (.int .u8 c8) := by have h := (XE.out.cell j).trans (bs_get (by rw [HPp.out.1]; exact HJ.out)); rwa [HC8.out] at h
          have fp := XE.out.frozen j
          have HV : Hid (0 ≤ bits .xor .u8 c8 xs3b ∧ bits .xor .u8 c8 xs3b ≤ 255) := Lib.hid (by
            have hpj : 0 ≤ c8 ∧ c8 ≤ 255 := by
              rw [← HC8.out]
              exact HPp.out.2 _ (by
                rw [List.getD_eq_getElem?_getD, List.getElem?_eq_getElem (show j < p.length by rw [HPp.out.1]; exact HJ.out)]
                exact List.getElem_mem _)
            have hq3 := HSp.out.2.2
            simp only at hq3
            have hx := Nat.xor_lt_two_pow (n := 8) (show c8.toNat < 2 ^ 8 by omega) (show xs3b.toNat < 2 ^ 8 by omega)
            rw [u8_xor c8 xs3b hpj.1 (by omega) hq3.1 (by omega)]
            omega)
          have XF : Hid (Box (we.setCell ⟨wb.heap.size, j, none⟩ (.int .u8 (bits .xor .u8 c8 xs3b))) wb.heap.size 43 (bs (p.set j (bits .xor .u8 c8 xs3b)))) := Lib.hid (by
            have h := XE.out.set j (.int .u8 (bits .xor .u8 c8 xs3b))
            rwa [show (bs p).set j (.int .u8 (bits .xor .u8 c8 xs3b)) = bs (p.set j (bits .xor .u8 c8 xs3b)) by simp [bs, List.map_set]] at h)
          have KF : Hid (Below wb.heap.size wb (we.setCell ⟨wb.heap.size, j, none⟩ (.int .u8 (bits .xor .u8 c8 xs3b)))) := Lib.hid (KE.out.setCell (Nat.le_refl _) _)
          have HQ : Hid ((p.set j (bits .xor .u8 c8 xs3b)).length = 64 ∧ octets (p.set j (bits .xor .u8 c8 xs3b))) := Lib.hid ⟨by rw [List.length_set]; exact HPp.out.1, set_oct HPp.out.2 j HV.out⟩
          go_wp2_with fail
          clear cp fp KE XE
          generalize bits .xor .u8 c8 xs3b = v8 at *
          generalize p.set j v8 = q at *
          generalize we.setCell ⟨wb.heap.size, j, none⟩ (.int .u8 v8) = wf at *
          have L9 := Lib.hid (L8.out.more KF.out [wb.heap.size] (by have h1 := XF.out.lt; intro b hb; simp at hb; omega))
          have X9 := Lib.hid XF.out
          clear KF XF L8
          generalize wb.heap.size = b15 at *
          obtain ⟨D', hwD, hup'⟩ := HWr.out q HQ.out.1 HQ.out.2
          have HUp2 := Lib.hid hup'
          have HWd := Lib.hid hwD
          clear hwD hup' HWr
          refine wp_region_held_drew (S := (fun w' => Box w' b15 43 (bs q))) (by kernel_rfl) (X9.out.on (Below.refl _ _).drew) (fun hHeld => ?_)
          refine wpAnyH_take (i := 0) (oi := ⟨some 129, .move _, _, _, _, _⟩) (v := ?v187) rfl (by kernel_rfl) (by kernel_rfl) (by kernel_rfl) (fun _ _ _ h => h) (Or.inl ⟨by rfl, ?hy187⟩) (by assumption) ?rest187
          case hy187 =>
            intro w9 hSw

            go_simp
            try with_reducible rfl
          try simp only [Act.put, List.setIfInBounds_toArray, List.set_cons_zero, List.set_cons_succ]
          refine wpAnyH_take (i := 1) (oi := ⟨some 130, .move _, _, _, _, _⟩) (v := ?v188) rfl (by kernel_rfl) (by kernel_rfl) (by kernel_rfl) (fun _ _ _ h => h) (Or.inl ⟨by rfl, ?hy188⟩) (by assumption) ?rest188
          case hy188 =>
            intro w9 hSw

            go_simp
            try with_reducible rfl
          try simp only [Act.put, List.setIfInBounds_toArray, List.set_cons_zero, List.set_cons_succ]
          refine wpAnyH_take (i := 2) (oi := ⟨some 131, .move _, _, _, _, _⟩) (v := ?v189) rfl (by kernel_rfl) (by kernel_rfl) (by kernel_rfl) (fun _ _ _ h => h) (Or.inl ⟨by rfl, ?hy189⟩) (by assumption) ?rest189
          case hy189 =>
            intro w9 hSw

            go_simp
            try with_reducible rfl
          try simp only [Act.put, List.setIfInBounds_toArray, List.set_cons_zero, List.set_cons_succ]
          refine wpAnyH_take (i := 4) (oi := ⟨some 133, .load _ _, _, _, _, _⟩) (v := ?v190) rfl (by kernel_rfl) (by kernel_rfl) (by kernel_rfl) (fun _ _ _ h => h) (Or.inl ⟨by rfl, ?hy190⟩) (by assumption) ?rest190
          case hy190 =>
            intro w9 hSw
            have lq := big_load0 Tryz.prog b15 0 (bs q) m6 (by rw [bs_length, HQ.out.1, HM6.out]) _ hSw.range0
            go_simp
            try with_reducible rfl
          try simp only [Act.put, List.setIfInBounds_toArray, List.set_cons_zero, List.set_cons_succ]
          refine wpAnyH_ready (rs := [3]) (by kernel_rfl) (by simp) ?_
          refine AllReadyH.cons (o := ⟨some 132, .call _, _, _, _, _⟩) rfl (fun K hK => ?_) AllReadyH.nil
          go_simp
          refine (HAz.out _).mono ?_
          rintro e ya ⟨rfl, ba⟩
          have LA1 := Lib.hid (L9.out.on (bthen (Below.refl _ _).drew ba))
          have XA1 := Lib.hid (X9.out.on (bthen (Below.refl _ _).drew ba))
          clear ba L9 X9
          go_wp2_with fail
          clear hHeld
          refine hK.out _ _ (XA1.out) (fun hHeld => ?_)
          clear hK K
          try simp only [Act.put, List.setIfInBounds_toArray, List.set_cons_zero, List.set_cons_succ]
          refine wpAnyH_ready (rs := [5]) (by kernel_rfl) (by simp) ?_
          refine AllReadyH.cons (o := ⟨some 134, .call _, _, _, _, _⟩) rfl (fun K hK => ?_) AllReadyH.nil
          go_simp
          refine (write_any (T := TX w.heap.size ([b15] ++ [w.heap.size])) (z, o, q) HQ.out.1 HW6.out LA1.out.dv.hT HUp.out.n.ok (by have h1 := HUp.out.n.c; have h2 := HK.out; omega) LA1.out.dv.1).mono ?_
          rintro e yb ⟨rfl, hI, hF⟩
          rw [HWd.out] at hI ⊢
          have LB := Lib.hid (LA1.out.put hI hF)
          have XB : Hid (Box yb b15 43 (bs q)) := Lib.hid (hF.box XA1.out (by simp))
          clear hI hF LA1 XA1
          go_wp2_with fail
          clear hHeld
          refine hK.out _ _ (XB.out) (fun hHeld => ?_)
          clear hK K
          try simp only [Act.put, List.setIfInBounds_toArray, List.set_cons_zero, List.set_cons_succ]
          refine wpAnyH_take (i := 6) (oi := ⟨some 135, .binOp _ _ _ _ _, _, _, _, _⟩) (v := ?v191) rfl (by kernel_rfl) (by kernel_rfl) (by kernel_rfl) (fun _ _ _ h => h) (Or.inl ⟨by rfl, ?hy191⟩) (by assumption) ?rest191
          case hy191 =>
            intro w9 hSw

            go_simp
            try with_reducible rfl
          try simp only [Act.put, List.setIfInBounds_toArray, List.set_cons_zero, List.set_cons_succ]
          refine wpAnyH_done (by kernel_rfl) ?_ _
          clear hHeld XB
          go_wp2
          go_roundw
          case rel => exact ⟨k + 1, D', by omega, by go_num, HUp2.out, LB.out.less (X := [w.heap.size]) (by simp) (by simp)⟩
          case measure => simp [intOf]; omega
        | true =>
          have hcr := (HCl.out _ L5.out.dv.2.1).1
          go_wp2_with fail
          clear hcr
          refine wp_region_held_drew (S := (fun w' => w'.cell? ⟨(ad.add (k * 4)).block, (ad.add (k * 4)).off + 1, none⟩ = some (.int .u8 xs1b) ∧ w'.cell? ⟨w.heap.size, 0, none⟩ = some (.int .i64 conv) ∧ w'.cell? ⟨w.heap.size, 1, none⟩ = some (.int .i64 soft) ∧ w'.cell? ⟨w.heap.size, 2, none⟩ = some (.int .i64 seq) ∧ w'.cell? ⟨w.heap.size, 3, none⟩ = some (.int .i64 size) ∧ w'.cell? ⟨w.heap.size, 4, none⟩ = some (.int .i64 opn))) (by kernel_rfl) (⟨(HCl.out _ (L5.out.on (Below.refl _ _).drew).dv.2.1).2.1, (L5.out.on (Below.refl _ _).drew).cells⟩) (fun hHeld => ?_)
          refine wpAnyH_take (i := 0) (oi := ⟨some 93, .move _, _, _, _, _⟩) (v := ?v192) rfl (by kernel_rfl) (by kernel_rfl) (by kernel_rfl) (fun _ _ _ h => h) (Or.inl ⟨by rfl, ?hy192⟩) (by assumption) ?rest192
          case hy192 =>
            intro w9 hSw

            go_simp
            try with_reducible rfl
          try simp only [Act.put, List.setIfInBounds_toArray, List.set_cons_zero, List.set_cons_succ]
          refine wpAnyH_take (i := 1) (oi := ⟨some 94, .move _, _, _, _, _⟩) (v := ?v193) rfl (by kernel_rfl) (by kernel_rfl) (by kernel_rfl) (fun _ _ _ h => h) (Or.inl ⟨by rfl, ?hy193⟩) (by assumption) ?rest193
          case hy193 =>
            intro w9 hSw

            go_simp
            try with_reducible rfl
          try simp only [Act.put, List.setIfInBounds_toArray, List.set_cons_zero, List.set_cons_succ]
          refine wpAnyH_take (i := 2) (oi := ⟨some 95, .indexAddr _ _ _, _, _, _, _⟩) (v := ?v194) rfl (by kernel_rfl) (by kernel_rfl) (by kernel_rfl) (fun _ _ _ h => h) (Or.inl ⟨by rfl, ?hy194⟩) (by assumption) ?rest194
          case hy194 =>
            intro w9 hSw

            go_simp
            try with_reducible rfl
          try simp only [Act.put, List.setIfInBounds_toArray, List.set_cons_zero, List.set_cons_succ]
          refine wpAnyH_take (i := 3) (oi := ⟨some 96, .fieldAddr _ _ _, _, _, _, _⟩) (v := ?v195) rfl (by kernel_rfl) (by kernel_rfl) (by kernel_rfl) (fun _ _ _ h => h) (Or.inl ⟨by rfl, ?hy195⟩) (by assumption) ?rest195
          case hy195 =>
            intro w9 hSw

            go_simp
            try with_reducible rfl
          try simp only [Act.put, List.setIfInBounds_toArray, List.set_cons_zero, List.set_cons_succ]
          refine wpAnyH_take (i := 4) (oi := ⟨some 97, .load _ _, _, _, _, _⟩) (v := ?v196) rfl (by kernel_rfl) (by kernel_rfl) (by kernel_rfl) (fun _ _ _ h => h) (Or.inl ⟨by rfl, ?hy196⟩) (by assumption) ?rest196
          case hy196 =>
            intro w9 hSw
            obtain ⟨hcr, _⟩ := hSw
            go_simp
            try with_reducible rfl
          try simp only [Act.put, List.setIfInBounds_toArray, List.set_cons_zero, List.set_cons_succ]
          refine wpAnyH_take (i := 5) (oi := ⟨some 98, .convert _ _ _, _, _, _, _⟩) (v := ?v197) rfl (by kernel_rfl) (by kernel_rfl) (by kernel_rfl) (fun _ _ _ h => h) (Or.inl ⟨by rfl, ?hy197⟩) (by assumption) ?rest197
          case hy197 =>
            intro w9 hSw

            go_simp
            try with_reducible rfl
          try simp only [Act.put, List.setIfInBounds_toArray, List.set_cons_zero, List.set_cons_succ]
          refine wpAnyH_take (i := 6) (oi := ⟨some 99, .move _, _, _, _, _⟩) (v := ?v198) rfl (by kernel_rfl) (by kernel_rfl) (by kernel_rfl) (fun _ _ _ h => h) (Or.inl ⟨by rfl, ?hy198⟩) (by assumption) ?rest198
          case hy198 =>
            intro w9 hSw

            go_simp
            try with_reducible rfl
          try simp only [Act.put, List.setIfInBounds_toArray, List.set_cons_zero, List.set_cons_succ]
          refine wpAnyH_take (i := 7) (oi := ⟨some 100, .load _ _, _, _, _, _⟩) (v := ?v199) rfl (by kernel_rfl) (by kernel_rfl) (by kernel_rfl) (fun _ _ _ h => h) (Or.inl ⟨by rfl, ?hy199⟩) (by assumption) ?rest199
          case hy199 =>
            intro w9 hSw
            obtain ⟨_, hS0, hS1, hS2, hS3, hS4⟩ := hSw
            go_simp
            try with_reducible rfl
          try simp only [Act.put, List.setIfInBounds_toArray, List.set_cons_zero, List.set_cons_succ]
          refine wpAnyH_take (i := 8) (oi := ⟨some 101, .move _, _, _, _, _⟩) (v := ?v200) rfl (by kernel_rfl) (by kernel_rfl) (by kernel_rfl) (fun _ _ _ h => h) (Or.inl ⟨by rfl, ?hy200⟩) (by assumption) ?rest200
          case hy200 =>
            intro w9 hSw

            go_simp
            try with_reducible rfl
          try simp only [Act.put, List.setIfInBounds_toArray, List.set_cons_zero, List.set_cons_succ]
          refine wpAnyH_ready (rs := [9]) (by kernel_rfl) (by simp) ?_
          refine AllReadyH.cons (o := ⟨some 102, .call _, _, _, _, _⟩) rfl (fun K hK => ?_) AllReadyH.nil
          go_simp
          refine (HAl.out _ _ _ _ 1 HUp.out (by decide) (L5.out.on (Below.refl _ _).drew).dv).mono ?_
          rintro e y1 ⟨V, rfl, hrow, hI, hF⟩
          obtain ⟨AV, cV, rfl⟩ := own_slice hrow
          have L6 := Lib.hid ((L5.out.on (Below.refl _ _).drew).put hI hF)
          clear hrow hI hF L5
          go_wp2_with fail
          clear hHeld
          refine hK.out _ _ (⟨(HCl.out _ L6.out.dv.2.1).2.1, L6.out.cells⟩) (fun hHeld => ?_)
          clear hK K
          try simp only [Act.put, List.setIfInBounds_toArray, List.set_cons_zero, List.set_cons_succ]
          refine wpAnyH_take (i := 10) (oi := ⟨some 103, .call _, _, _, _, _⟩) (v := ?v201) rfl (by kernel_rfl) (by kernel_rfl) (by kernel_rfl) (fun _ _ _ h => h) (Or.inl ⟨by rfl, ?hy201⟩) (by assumption) ?rest201
          case hy201 =>
            intro w9 hSw

            go_simp
            try with_reducible rfl
          try simp only [Act.put, List.setIfInBounds_toArray, List.set_cons_zero, List.set_cons_succ]
          refine wpAnyH_take (i := 11) (oi := ⟨some 104, .binOp _ _ _ _ _, _, _, _, _⟩) (v := ?v202) rfl (by kernel_rfl) (by kernel_rfl) (by kernel_rfl) (fun _ _ _ h => h) (Or.inl ⟨by rfl, ?hy202⟩) (by assumption) ?rest202
          case hy202 =>
            intro w9 hSw

            go_simp
            try with_reducible rfl
          try simp only [Act.put, List.setIfInBounds_toArray, List.set_cons_zero, List.set_cons_succ]
          refine wpAnyH_take (i := 12) (oi := ⟨some 14, .assign _, _, _, _, _⟩) (v := ?v203) rfl (by kernel_rfl) (by kernel_rfl) (by kernel_rfl) (fun _ _ _ h => h) (Or.inl ⟨by rfl, ?hy203⟩) (by assumption) ?rest203
          case hy203 =>
            intro w9 hSw

            go_simp
            try with_reducible rfl
          try simp only [Act.put, List.setIfInBounds_toArray, List.set_cons_zero, List.set_cons_succ]
          refine wpAnyH_done (by kernel_rfl) ?_ _
          clear hHeld
          go_wp2_with fail
          have HAz := Lib.hid (HAt.out 1 (by decide))
          refine (HAz.out _).mono ?_
          rintro e wa ⟨rfl, ba⟩
          have L7 := Lib.hid (L6.out.on ba)
          clear ba L6
          have HUr := Lib.hid (up_read HUp.out (odd := 1) HI.out)
          have HUp0 := Lib.hid (up_place HUp.out (odd := 1) HI.out)
          have HWr := Lib.hid (fun (p : List Int) (h1 : p.length = 64) (h2 : octets p) => up_write HUp.out (by have := HK.out; omega) (odd := 1) HI.out h1 h2)
          have HPp := Lib.hid (And.intro (page_len HUp.out.n.ok (plZ 1, plO 1 + (i : Int))) (page_oct HUp.out.n.ok HUp.out.od (plZ 1, plO 1 + (i : Int))))
          have HW6 : Hid (W64 (plZ 1) ∧ W64 (plO 1 + (i : Int))) := Lib.hid (by have h1 := plZ_in 1; have h2 := plO_in 1; have h3 := HI.out; have h4 := HM.out.2; exact ⟨w64 (by omega) (by omega), w64 (by omega) (by omega)⟩)
          generalize plZ 1 = z at *
          generalize plO 1 + (i : Int) = o at *
          have HRd := Lib.hid (read_any (T := TX w.heap.size [w.heap.size]) (z, o) HW6.out L7.out.dv.hT HUp.out.n.ok L7.out.dv.1)
          rw [HUr.out] at HRd
          generalize pageD D (z, o) = p at *
          go_wp2_with fail
          refine HRd.out.mono ?_
          rintro e wb ⟨rfl, hI, hF⟩
          have L8 := Lib.hid (L7.out.put hI hF)
          clear hI hF L7 HRd HUr
          have hp8 := HPp.out.1
          go_wp2_with (first
            | ((with_reducible refine wpList_pg_alloc (o := ⟨some 15, .alloc _, _, _, _, _⟩) rfl rfl ?_); intro wc xc hBc hsc)
            | ((with_reducible refine wpList_pg_store (o := ⟨none, .store _ (.tmp 15) _, _, _, _, _⟩) rfl _ _ rfl wb.heap.size p pg0 hp8 rfl rfl rfl xc ?_); go_loud (intro wd xd hgd hsd; have KD := Lib.hid (below_stored hBc hgd hBc.size (Nat.le_refl _)); have XD := Lib.hid xd; clear xc hBc hsc xd hgd hsd))
            | fail)
          have hj0 : ¬ j ≥ 64 := by have := HJ.out; omega
          have hji : (j : Int) < 64 := by have := HJ.out; omega
          have hjz : (0 : Int) ≤ (j : Int) := by omega
          obtain ⟨c8, hc8⟩ : ∃ c8, p.getD j 0 = c8 := ⟨_, rfl⟩
          have HC8 := Lib.hid hc8
          clear hc8
          refine wp_region_class_tail (fun w' => Below wd.heap.size wd w') 16 (by kernel_rfl) (by kernel_rfl) (Below.refl _ _).drew ?_
          intro X hX f hf hg
          have cr2 := fun x => (HCl.out _ (bthen (bthen L8.out.dv.2.1 KD.out) (hf x))).2.2.1
          have cr3 := fun x => (HCl.out _ (bthen (bthen L8.out.dv.2.1 KD.out) (hf x))).2.2.2
          have cp : ∀ x, (f x).cell? ⟨wb.heap.size, j, none⟩ = some (.int .u8 c8) := fun x => by have h := ((XD.out.on (hf x)).cell j).trans (bs_get (by rw [HPp.out.1]; exact HJ.out)); rwa [HC8.out] at h
          have Hf := Lib.hid hf
          have Hg := Lib.hid hg
          clear hf hg
          simp only [List.take_succ_cons, List.take_zero, List.drop_succ_cons, List.drop_zero]
          repeat (go_big_quiet_step (fail))
          refine wpQuiet_nil ?_
          rintro _ ⟨x, rfl⟩
          have KE := Lib.hid (bthen KD.out (Hf.out x))
          have XE := Lib.hid (XD.out.on (Hf.out x))
          clear cr2 cr3 cp Hf Hg hX KD XD
          generalize f x = we at KE XE ⊢
          have cp : we.cell? ⟨wb.heap.size, j, none⟩ = some (.int .u8 c8) := by have h := (XE.out.cell j).trans (bs_get (by rw [HPp.out.1]; exact HJ.out)); rwa [HC8.out] at h
          have fp := XE.out.frozen j
          have HV : Hid (0 ≤ bits .xor .u8 c8 xs3b ∧ bits .xor .u8 c8 xs3b ≤ 255) := Lib.hid (by
            have hpj : 0 ≤ c8 ∧ c8 ≤ 255 := by
              rw [← HC8.out]
              exact HPp.out.2 _ (by
                rw [List.getD_eq_getElem?_getD, List.getElem?_eq_getElem (show j < p.length by rw [HPp.out.1]; exact HJ.out)]
                exact List.getElem_mem _)
            have hq3 := HSp.out.2.2
            simp only at hq3
            have hx := Nat.xor_lt_two_pow (n := 8) (show c8.toNat < 2 ^ 8 by omega) (show xs3b.toNat < 2 ^ 8 by omega)
            rw [u8_xor c8 xs3b hpj.1 (by omega) hq3.1 (by omega)]
            omega)
          have XF : Hid (Box (we.setCell ⟨wb.heap.size, j, none⟩ (.int .u8 (bits .xor .u8 c8 xs3b))) wb.heap.size 43 (bs (p.set j (bits .xor .u8 c8 xs3b)))) := Lib.hid (by
            have h := XE.out.set j (.int .u8 (bits .xor .u8 c8 xs3b))
            rwa [show (bs p).set j (.int .u8 (bits .xor .u8 c8 xs3b)) = bs (p.set j (bits .xor .u8 c8 xs3b)) by simp [bs, List.map_set]] at h)
          have KF : Hid (Below wb.heap.size wb (we.setCell ⟨wb.heap.size, j, none⟩ (.int .u8 (bits .xor .u8 c8 xs3b)))) := Lib.hid (KE.out.setCell (Nat.le_refl _) _)
          have HQ : Hid ((p.set j (bits .xor .u8 c8 xs3b)).length = 64 ∧ octets (p.set j (bits .xor .u8 c8 xs3b))) := Lib.hid ⟨by rw [List.length_set]; exact HPp.out.1, set_oct HPp.out.2 j HV.out⟩
          go_wp2_with fail
          clear cp fp KE XE
          generalize bits .xor .u8 c8 xs3b = v8 at *
          generalize p.set j v8 = q at *
          generalize we.setCell ⟨wb.heap.size, j, none⟩ (.int .u8 v8) = wf at *
          have L9 := Lib.hid (L8.out.more KF.out [wb.heap.size] (by have h1 := XF.out.lt; intro b hb; simp at hb; omega))
          have X9 := Lib.hid XF.out
          clear KF XF L8
          generalize wb.heap.size = b15 at *
          obtain ⟨D', hwD, hup'⟩ := HWr.out q HQ.out.1 HQ.out.2
          have HUp2 := Lib.hid hup'
          have HWd := Lib.hid hwD
          clear hwD hup' HWr
          refine wp_region_held_drew (S := (fun w' => Box w' b15 43 (bs q))) (by kernel_rfl) (X9.out.on (Below.refl _ _).drew) (fun hHeld => ?_)
          refine wpAnyH_take (i := 0) (oi := ⟨some 129, .move _, _, _, _, _⟩) (v := ?v204) rfl (by kernel_rfl) (by kernel_rfl) (by kernel_rfl) (fun _ _ _ h => h) (Or.inl ⟨by rfl, ?hy204⟩) (by assumption) ?rest204
          case hy204 =>
            intro w9 hSw

            go_simp
            try with_reducible rfl
          try simp only [Act.put, List.setIfInBounds_toArray, List.set_cons_zero, List.set_cons_succ]
          refine wpAnyH_take (i := 1) (oi := ⟨some 130, .move _, _, _, _, _⟩) (v := ?v205) rfl (by kernel_rfl) (by kernel_rfl) (by kernel_rfl) (fun _ _ _ h => h) (Or.inl ⟨by rfl, ?hy205⟩) (by assumption) ?rest205
          case hy205 =>
            intro w9 hSw

            go_simp
            try with_reducible rfl
          try simp only [Act.put, List.setIfInBounds_toArray, List.set_cons_zero, List.set_cons_succ]
          refine wpAnyH_take (i := 2) (oi := ⟨some 131, .move _, _, _, _, _⟩) (v := ?v206) rfl (by kernel_rfl) (by kernel_rfl) (by kernel_rfl) (fun _ _ _ h => h) (Or.inl ⟨by rfl, ?hy206⟩) (by assumption) ?rest206
          case hy206 =>
            intro w9 hSw

            go_simp
            try with_reducible rfl
          try simp only [Act.put, List.setIfInBounds_toArray, List.set_cons_zero, List.set_cons_succ]
          refine wpAnyH_take (i := 4) (oi := ⟨some 133, .load _ _, _, _, _, _⟩) (v := ?v207) rfl (by kernel_rfl) (by kernel_rfl) (by kernel_rfl) (fun _ _ _ h => h) (Or.inl ⟨by rfl, ?hy207⟩) (by assumption) ?rest207
          case hy207 =>
            intro w9 hSw
            have lq := big_load0 Tryz.prog b15 0 (bs q) m6 (by rw [bs_length, HQ.out.1, HM6.out]) _ hSw.range0
            go_simp
            try with_reducible rfl
          try simp only [Act.put, List.setIfInBounds_toArray, List.set_cons_zero, List.set_cons_succ]
          refine wpAnyH_ready (rs := [3]) (by kernel_rfl) (by simp) ?_
          refine AllReadyH.cons (o := ⟨some 132, .call _, _, _, _, _⟩) rfl (fun K hK => ?_) AllReadyH.nil
          go_simp
          refine (HAz.out _).mono ?_
          rintro e ya ⟨rfl, ba⟩
          have LA1 := Lib.hid (L9.out.on (bthen (Below.refl _ _).drew ba))
          have XA1 := Lib.hid (X9.out.on (bthen (Below.refl _ _).drew ba))
          clear ba L9 X9
          go_wp2_with fail
          clear hHeld
          refine hK.out _ _ (XA1.out) (fun hHeld => ?_)
          clear hK K
          try simp only [Act.put, List.setIfInBounds_toArray, List.set_cons_zero, List.set_cons_succ]
          refine wpAnyH_ready (rs := [5]) (by kernel_rfl) (by simp) ?_
          refine AllReadyH.cons (o := ⟨some 134, .call _, _, _, _, _⟩) rfl (fun K hK => ?_) AllReadyH.nil
          go_simp
          refine (write_any (T := TX w.heap.size ([b15] ++ [w.heap.size])) (z, o, q) HQ.out.1 HW6.out LA1.out.dv.hT HUp.out.n.ok (by have h1 := HUp.out.n.c; have h2 := HK.out; omega) LA1.out.dv.1).mono ?_
          rintro e yb ⟨rfl, hI, hF⟩
          rw [HWd.out] at hI ⊢
          have LB := Lib.hid (LA1.out.put hI hF)
          have XB : Hid (Box yb b15 43 (bs q)) := Lib.hid (hF.box XA1.out (by simp))
          clear hI hF LA1 XA1
          go_wp2_with fail
          clear hHeld
          refine hK.out _ _ (XB.out) (fun hHeld => ?_)
          clear hK K
          try simp only [Act.put, List.setIfInBounds_toArray, List.set_cons_zero, List.set_cons_succ]
          refine wpAnyH_take (i := 6) (oi := ⟨some 135, .binOp _ _ _ _ _, _, _, _, _⟩) (v := ?v208) rfl (by kernel_rfl) (by kernel_rfl) (by kernel_rfl) (fun _ _ _ h => h) (Or.inl ⟨by rfl, ?hy208⟩) (by assumption) ?rest208
          case hy208 =>
            intro w9 hSw

            go_simp
            try with_reducible rfl
          try simp only [Act.put, List.setIfInBounds_toArray, List.set_cons_zero, List.set_cons_succ]
          refine wpAnyH_done (by kernel_rfl) ?_ _
          clear hHeld XB
          go_wp2
          go_roundw
          case rel => exact ⟨k + 1, D', by omega, by go_num, HUp2.out, LB.out.less (X := [w.heap.size]) (by simp) (by simp)⟩
          case measure => simp [intOf]; omega
      · obtain rfl : NS = k := by omega
        have HRead := Lib.hid fun (W : World) (A : Option Addr) (c : Nat) (odd : Int) (ho : 0 ≤ odd ∧ odd ≤ 1) (hr : Rd W W.heap.size A (pgcs (regD D odd (P + 2)))) => (by
          have h := rckread_any conv soft seq size opn odd n P (P + 2) c A (regD D odd (P + 2)) W HM.out.1 rfl (regD_length _ _ _) (regD_64 HUp.out.n.ok _ _) (regD_oct HUp.out.n.ok HUp.out.od _ _) hr
          rwa [whole_eq HM.out.1.hP] at h : Calls Tryz.prog 14 #[gvl conv soft seq size opn, .slice A (P + 2) c, .int .i64 odd] W fun e w' => RdPost W w' n (whS n P odd (regD D odd (P + 2))) e ∧ Below W.heap.size W w')
        have HPkE : Hid (pickS D n P = pkF (pkF none (whS n P 0 (regD D 0 (P + 2)))) (whS n P 1 (regD D 1 (P + 2)))) := Lib.hid rfl
        have HQ0 : Hid (∀ m ys, whS n P 0 (regD D 0 (P + 2)) = some (m, ys) → m.gen % 2 = 0 ∧ 0 < m.gen) := Lib.hid fun m ys h => by
          obtain ⟨_, h2, h3⟩ := whole_head h
          have h4 := (of_decide_eq_true (head_iff.1 h2).1 : Mast.Ok m).1.1
          exact ⟨h3, by omega⟩
        have HQ1 : Hid (∀ m ys, whS n P 1 (regD D 1 (P + 2)) = some (m, ys) → m.gen % 2 = 1 ∧ 0 < m.gen) := Lib.hid fun m ys h => by
          obtain ⟨_, h2, h3⟩ := whole_head h
          have h4 := (of_decide_eq_true (head_iff.1 h2).1 : Mast.Ok m).1.1
          exact ⟨h3, by omega⟩
        go_wp2_with fail
        apply wp_meet5 (fun W b V m VQ ok => ∃ X', b ∈ X' ∧ LwSt w W X' d D (gcl conv soft seq size opn) ∧ AnsB w W X' n (whS n P 0 (regD D 0 (P + 2))) m VQ ok ∧ Box W b 34 (mcs m))
        case h =>
          have LS := Lib.hid (L5.out.on (Below.refl _ _).drew)
          refine wp_region_held_drew (S := (fun w' => w'.cell? ⟨w.heap.size, 0, none⟩ = some (.int .i64 conv) ∧ w'.cell? ⟨w.heap.size, 1, none⟩ = some (.int .i64 soft) ∧ w'.cell? ⟨w.heap.size, 2, none⟩ = some (.int .i64 seq) ∧ w'.cell? ⟨w.heap.size, 3, none⟩ = some (.int .i64 size) ∧ w'.cell? ⟨w.heap.size, 4, none⟩ = some (.int .i64 opn))) (by kernel_rfl) (LS.out.cells) (fun hHeld => ?_)
          refine wpAnyH_take (i := 0) (oi := ⟨some 137, .load _ _, _, _, _, _⟩) (v := ?v209) rfl (by kernel_rfl) (by kernel_rfl) (by kernel_rfl) (fun _ _ _ h => h) (Or.inl ⟨by rfl, ?hy209⟩) (by assumption) ?rest209
          case hy209 =>
            intro w hSw
            obtain ⟨hS0, hS1, hS2, hS3, hS4⟩ := hSw
            go_simp
            try with_reducible rfl
          try simp only [Act.put, List.setIfInBounds_toArray, List.set_cons_zero, List.set_cons_succ]
          refine wpAnyH_take (i := 1) (oi := ⟨some 138, .move _, _, _, _, _⟩) (v := ?v210) rfl (by kernel_rfl) (by kernel_rfl) (by kernel_rfl) (fun _ _ _ h => h) (Or.inl ⟨by rfl, ?hy210⟩) (by assumption) ?rest210
          case hy210 =>
            intro w hSw

            go_simp
            try with_reducible rfl
          try simp only [Act.put, List.setIfInBounds_toArray, List.set_cons_zero, List.set_cons_succ]
          refine wpAnyH_take (i := 2) (oi := ⟨some 139, .load _ _, _, _, _, _⟩) (v := ?v211) rfl (by kernel_rfl) (by kernel_rfl) (by kernel_rfl) (fun _ _ _ h => h) (Or.inl ⟨by rfl, ?hy211⟩) (by assumption) ?rest211
          case hy211 =>
            intro w hSw
            obtain ⟨hS0, hS1, hS2, hS3, hS4⟩ := hSw
            go_simp
            try with_reducible rfl
          try simp only [Act.put, List.setIfInBounds_toArray, List.set_cons_zero, List.set_cons_succ]
          refine wpAnyH_ready (rs := [3, 9]) (by kernel_rfl) (by simp) ?_
          refine AllReadyH.cons (o := ⟨some 140, .call _, _, _, _, _⟩) rfl (fun K hK => ?_) (AllReadyH.cons (o := ⟨some 17, .alloc _, _, _, _, _⟩) rfl (fun K hK => ?_) AllReadyH.nil)
          · go_simp
            refine (HAl.out _ _ _ _ 0 HUp.out (by decide) LS.out.dv).mono ?_
            rintro e y1 ⟨V, rfl, hrow, hI, hF⟩
            obtain ⟨AV, cV, rfl⟩ := own_slice hrow
            have LA := Lib.hid (LS.out.put hI hF)
            have RYA := Lib.hid (Rd.own hrow)
            clear hrow hI hF LS 
            go_wp2_with fail
            clear hHeld
            refine hK.out _ _ (LA.out.cells) (fun hHeld => ?_)
            clear hK K
            try simp only [Act.put, List.setIfInBounds_toArray, List.set_cons_zero, List.set_cons_succ]
            refine wpAnyH_ready (rs := [4, 9]) (by kernel_rfl) (by simp) ?_
            refine AllReadyH.cons (o := ⟨some 141, .call _, _, _, _, _⟩) rfl (fun K hK => ?_) (AllReadyH.cons (o := ⟨some 17, .alloc _, _, _, _, _⟩) rfl (fun K hK => ?_) AllReadyH.nil)
            · go_simp
              refine (HRead.out _ AV cV 0 (by decide) RYA.out).mono ?_
              rintro e y2 ⟨hpost, hb2⟩
              obtain ⟨mq, VQ, okq, rfl, hans⟩ := hpost.ans
              obtain ⟨YX, hL, hA⟩ := ans_in LA.out hb2 hans
              have LAR := Lib.hid hL
              have AQAR := Lib.hid hA
              clear hpost hans hL hA hb2 RYA LA 
              go_wp2_with fail
              clear hHeld
              refine hK.out _ _ (LAR.out.cells) (fun hHeld => ?_)
              clear hK K
              try simp only [Act.put, List.setIfInBounds_toArray, List.set_cons_zero, List.set_cons_succ]
              refine wpAnyH_take (i := 5) (oi := ⟨some 136, .move _, _, _, _, _⟩) (v := ?v212) rfl (by kernel_rfl) (by kernel_rfl) (by kernel_rfl) (fun _ _ _ h => h) (Or.inl ⟨by rfl, ?hy212⟩) (by assumption) ?rest212
              case hy212 =>
                intro w hSw

                go_simp
                try with_reducible rfl
              try simp only [Act.put, List.setIfInBounds_toArray, List.set_cons_zero, List.set_cons_succ]
              refine wpAnyH_take (i := 6) (oi := ⟨some 142, .extract _ _, _, _, _, _⟩) (v := ?v213) rfl (by kernel_rfl) (by kernel_rfl) (by kernel_rfl) (fun _ _ _ h => h) (Or.inl ⟨by rfl, ?hy213⟩) (by assumption) ?rest213
              case hy213 =>
                intro w hSw

                go_simp
                try with_reducible rfl
              try simp only [Act.put, List.setIfInBounds_toArray, List.set_cons_zero, List.set_cons_succ]
              refine wpAnyH_take (i := 7) (oi := ⟨some 143, .extract _ _, _, _, _, _⟩) (v := ?v214) rfl (by kernel_rfl) (by kernel_rfl) (by kernel_rfl) (fun _ _ _ h => h) (Or.inl ⟨by rfl, ?hy214⟩) (by assumption) ?rest214
              case hy214 =>
                intro w hSw

                go_simp
                try with_reducible rfl
              try simp only [Act.put, List.setIfInBounds_toArray, List.set_cons_zero, List.set_cons_succ]
              refine wpAnyH_take (i := 8) (oi := ⟨some 144, .extract _ _, _, _, _, _⟩) (v := ?v215) rfl (by kernel_rfl) (by kernel_rfl) (by kernel_rfl) (fun _ _ _ h => h) (Or.inl ⟨by rfl, ?hy215⟩) (by assumption) ?rest215
              case hy215 =>
                intro w hSw

                go_simp
                try with_reducible rfl
              try simp only [Act.put, List.setIfInBounds_toArray, List.set_cons_zero, List.set_cons_succ]
              refine wpAnyH_ready (rs := [9]) (by kernel_rfl) (by simp) ?_
              refine AllReadyH.cons (o := ⟨some 17, .alloc _, _, _, _, _⟩) rfl (fun K hK => ?_) AllReadyH.nil
              refine step_ms_alloc rfl rfl ?_
              intro y3 xM hBM hsM
              have LARM := Lib.hid (LAR.out.more hBM [y2.heap.size] (by intro b hb; have h2 := xM.lt; simp only [List.mem_cons, List.not_mem_nil, or_false] at hb; subst hb; exact ⟨Nat.le_refl _, h2⟩))
              have MARM : Hid (Box y3 y2.heap.size 34 (mcs Mast.m0)) := Lib.hid xM
              have HGT : Hid (w.heap.size < y2.heap.size) := Lib.hid LAR.out.ge.lt
              have AQARM := Lib.hid ((AQAR.out.on hBM).more [y2.heap.size])
              clear AQAR
              clear xM hBM hsM LAR 
              clear hHeld
              refine hK.out _ _ (LARM.out.cells) (fun hHeld => ?_)
              clear hK K
              try simp only [Act.put, List.setIfInBounds_toArray, List.set_cons_zero, List.set_cons_succ]
              refine wpAnyH_ready (rs := [10]) (by kernel_rfl) (by simp) ?_
              refine AllReadyH.cons (o := ⟨none, .store _ _ _, _, _, _, _⟩) rfl (fun K hK => ?_) AllReadyH.nil
              refine step_ms_store rfl _ _ rfl y2.heap.size mq Mast.m0 rfl (by rfl) MARM.out ?_
              intro wZ x4 hg4 hs4
              have LZ := LARM.out.stored hg4 (by simp) HGT.out
              have AZ := AQARM.out.stored MARM.out hg4
              clear hHeld
              refine hK.out _ _ (LZ.cells) (fun hHeld => ?_)
              clear hK K
              try simp only [Act.put]
              refine wpAnyH_take (i := 11) (oi := ⟨some 18, .assign _, _, _, _, _⟩) (v := ?v216) rfl (by kernel_rfl) (by kernel_rfl) (by kernel_rfl) (fun _ _ _ h => h) (Or.inl ⟨by rfl, ?hy216⟩) (by assumption) ?rest216
              case hy216 =>
                intro w hSw

                go_simp
                try with_reducible rfl
              try simp only [Act.put, List.setIfInBounds_toArray, List.set_cons_zero, List.set_cons_succ]
              refine wpAnyH_take (i := 12) (oi := ⟨some 19, .assign _, _, _, _, _⟩) (v := ?v217) rfl (by kernel_rfl) (by kernel_rfl) (by kernel_rfl) (fun _ _ _ h => h) (Or.inl ⟨by rfl, ?hy217⟩) (by assumption) ?rest217
              case hy217 =>
                intro w hSw

                go_simp
                try with_reducible rfl
              try simp only [Act.put, List.setIfInBounds_toArray, List.set_cons_zero, List.set_cons_succ]
              refine wpAnyH_done (by kernel_rfl) ?_ _
              clear hHeld
              have F : ∃ X', y2.heap.size ∈ X' ∧ LwSt w wZ X' d D (gcl conv soft seq size opn) ∧ AnsB w wZ X' n (whS n P 0 (regD D 0 (P + 2))) mq VQ okq ∧ Box wZ y2.heap.size 34 (mcs mq) := ⟨_, by simp, LZ, AZ, x4⟩
              try simp only [World.size_drew]
              generalize y2.heap.size = g9 at F ⊢
              generalize Value.slice AV (P + 2) cV = V9
              exact ⟨g9, V9, mq, VQ, okq, F, rfl⟩
            · refine step_ms_alloc rfl rfl ?_
              intro y2 xM hBM hsM
              have LAM := Lib.hid (LA.out.more hBM [y1.heap.size] (by intro b hb; have h2 := xM.lt; simp only [List.mem_cons, List.not_mem_nil, or_false] at hb; subst hb; exact ⟨Nat.le_refl _, h2⟩))
              have MAM : Hid (Box y2 y1.heap.size 34 (mcs Mast.m0)) := Lib.hid xM
              have HGT : Hid (w.heap.size < y1.heap.size) := Lib.hid LA.out.ge.lt
              have RYAM := Lib.hid ((RYA.out.below hBM).more hBM.size)
              clear RYA
              clear xM hBM hsM LA 
              clear hHeld
              refine hK.out _ _ (LAM.out.cells) (fun hHeld => ?_)
              clear hK K
              try simp only [Act.put, List.setIfInBounds_toArray, List.set_cons_zero, List.set_cons_succ]
              refine wpAnyH_ready (rs := [4]) (by kernel_rfl) (by simp) ?_
              refine AllReadyH.cons (o := ⟨some 141, .call _, _, _, _, _⟩) rfl (fun K hK => ?_) AllReadyH.nil
              go_simp
              refine (HRead.out _ AV cV 0 (by decide) RYAM.out).mono ?_
              rintro e y3 ⟨hpost, hb2⟩
              obtain ⟨mq, VQ, okq, rfl, hans⟩ := hpost.ans
              obtain ⟨YX, hL, hA⟩ := ans_in LAM.out hb2 hans
              have LAMR := Lib.hid hL
              have AQAMR := Lib.hid hA
              have MAMR := Lib.hid (MAM.out.on hb2)
              clear hpost hans hL hA hb2 RYAM LAM MAM
              go_wp2_with fail
              clear hHeld
              refine hK.out _ _ (LAMR.out.cells) (fun hHeld => ?_)
              clear hK K
              try simp only [Act.put, List.setIfInBounds_toArray, List.set_cons_zero, List.set_cons_succ]
              refine wpAnyH_take (i := 5) (oi := ⟨some 136, .move _, _, _, _, _⟩) (v := ?v218) rfl (by kernel_rfl) (by kernel_rfl) (by kernel_rfl) (fun _ _ _ h => h) (Or.inl ⟨by rfl, ?hy218⟩) (by assumption) ?rest218
              case hy218 =>
                intro w hSw

                go_simp
                try with_reducible rfl
              try simp only [Act.put, List.setIfInBounds_toArray, List.set_cons_zero, List.set_cons_succ]
              refine wpAnyH_take (i := 6) (oi := ⟨some 142, .extract _ _, _, _, _, _⟩) (v := ?v219) rfl (by kernel_rfl) (by kernel_rfl) (by kernel_rfl) (fun _ _ _ h => h) (Or.inl ⟨by rfl, ?hy219⟩) (by assumption) ?rest219
              case hy219 =>
                intro w hSw

                go_simp
                try with_reducible rfl
              try simp only [Act.put, List.setIfInBounds_toArray, List.set_cons_zero, List.set_cons_succ]
              refine wpAnyH_take (i := 7) (oi := ⟨some 143, .extract _ _, _, _, _, _⟩) (v := ?v220) rfl (by kernel_rfl) (by kernel_rfl) (by kernel_rfl) (fun _ _ _ h => h) (Or.inl ⟨by rfl, ?hy220⟩) (by assumption) ?rest220
              case hy220 =>
                intro w hSw

                go_simp
                try with_reducible rfl
              try simp only [Act.put, List.setIfInBounds_toArray, List.set_cons_zero, List.set_cons_succ]
              refine wpAnyH_take (i := 8) (oi := ⟨some 144, .extract _ _, _, _, _, _⟩) (v := ?v221) rfl (by kernel_rfl) (by kernel_rfl) (by kernel_rfl) (fun _ _ _ h => h) (Or.inl ⟨by rfl, ?hy221⟩) (by assumption) ?rest221
              case hy221 =>
                intro w hSw

                go_simp
                try with_reducible rfl
              try simp only [Act.put, List.setIfInBounds_toArray, List.set_cons_zero, List.set_cons_succ]
              refine wpAnyH_ready (rs := [10]) (by kernel_rfl) (by simp) ?_
              refine AllReadyH.cons (o := ⟨none, .store _ _ _, _, _, _, _⟩) rfl (fun K hK => ?_) AllReadyH.nil
              refine step_ms_store rfl _ _ rfl y1.heap.size mq Mast.m0 rfl (by rfl) MAMR.out ?_
              intro wZ x4 hg4 hs4
              have LZ := LAMR.out.stored hg4 (by simp) HGT.out
              have AZ := AQAMR.out.stored MAMR.out hg4
              clear hHeld
              refine hK.out _ _ (LZ.cells) (fun hHeld => ?_)
              clear hK K
              try simp only [Act.put]
              refine wpAnyH_take (i := 11) (oi := ⟨some 18, .assign _, _, _, _, _⟩) (v := ?v222) rfl (by kernel_rfl) (by kernel_rfl) (by kernel_rfl) (fun _ _ _ h => h) (Or.inl ⟨by rfl, ?hy222⟩) (by assumption) ?rest222
              case hy222 =>
                intro w hSw

                go_simp
                try with_reducible rfl
              try simp only [Act.put, List.setIfInBounds_toArray, List.set_cons_zero, List.set_cons_succ]
              refine wpAnyH_take (i := 12) (oi := ⟨some 19, .assign _, _, _, _, _⟩) (v := ?v223) rfl (by kernel_rfl) (by kernel_rfl) (by kernel_rfl) (fun _ _ _ h => h) (Or.inl ⟨by rfl, ?hy223⟩) (by assumption) ?rest223
              case hy223 =>
                intro w hSw

                go_simp
                try with_reducible rfl
              try simp only [Act.put, List.setIfInBounds_toArray, List.set_cons_zero, List.set_cons_succ]
              refine wpAnyH_done (by kernel_rfl) ?_ _
              clear hHeld
              have F : ∃ X', y1.heap.size ∈ X' ∧ LwSt w wZ X' d D (gcl conv soft seq size opn) ∧ AnsB w wZ X' n (whS n P 0 (regD D 0 (P + 2))) mq VQ okq ∧ Box wZ y1.heap.size 34 (mcs mq) := ⟨_, by simp, LZ, AZ, x4⟩
              try simp only [World.size_drew]
              generalize y1.heap.size = g9 at F ⊢
              generalize Value.slice AV (P + 2) cV = V9
              exact ⟨g9, V9, mq, VQ, okq, F, rfl⟩
          · refine step_ms_alloc rfl rfl ?_
            intro y1 xM hBM hsM
            have LM := Lib.hid (LS.out.more hBM [wr.heap.size] (by intro b hb; have h2 := xM.lt; simp only [List.mem_cons, List.not_mem_nil, or_false] at hb; subst hb; exact ⟨Nat.le_refl _, h2⟩))
            have MM : Hid (Box y1 wr.heap.size 34 (mcs Mast.m0)) := Lib.hid xM
            have HGT : Hid (w.heap.size < wr.heap.size) := Lib.hid LS.out.ge.lt
            clear xM hBM hsM LS 
            clear hHeld
            refine hK.out _ _ (LM.out.cells) (fun hHeld => ?_)
            clear hK K
            try simp only [Act.put, List.setIfInBounds_toArray, List.set_cons_zero, List.set_cons_succ]
            refine wpAnyH_ready (rs := [3]) (by kernel_rfl) (by simp) ?_
            refine AllReadyH.cons (o := ⟨some 140, .call _, _, _, _, _⟩) rfl (fun K hK => ?_) AllReadyH.nil
            go_simp
            refine (HAl.out _ _ _ _ 0 HUp.out (by decide) LM.out.dv).mono ?_
            rintro e y2 ⟨V, rfl, hrow, hI, hF⟩
            obtain ⟨AV, cV, rfl⟩ := own_slice hrow
            have LMA := Lib.hid (LM.out.put hI hF)
            have RYMA := Lib.hid (Rd.own hrow)
            have MMA := Lib.hid (hF.box MM.out (by simp))
            clear hrow hI hF LM MM
            go_wp2_with fail
            clear hHeld
            refine hK.out _ _ (LMA.out.cells) (fun hHeld => ?_)
            clear hK K
            try simp only [Act.put, List.setIfInBounds_toArray, List.set_cons_zero, List.set_cons_succ]
            refine wpAnyH_ready (rs := [4]) (by kernel_rfl) (by simp) ?_
            refine AllReadyH.cons (o := ⟨some 141, .call _, _, _, _, _⟩) rfl (fun K hK => ?_) AllReadyH.nil
            go_simp
            refine (HRead.out _ AV cV 0 (by decide) RYMA.out).mono ?_
            rintro e y3 ⟨hpost, hb2⟩
            obtain ⟨mq, VQ, okq, rfl, hans⟩ := hpost.ans
            obtain ⟨YX, hL, hA⟩ := ans_in LMA.out hb2 hans
            have LMAR := Lib.hid hL
            have AQMAR := Lib.hid hA
            have MMAR := Lib.hid (MMA.out.on hb2)
            clear hpost hans hL hA hb2 RYMA LMA MMA
            go_wp2_with fail
            clear hHeld
            refine hK.out _ _ (LMAR.out.cells) (fun hHeld => ?_)
            clear hK K
            try simp only [Act.put, List.setIfInBounds_toArray, List.set_cons_zero, List.set_cons_succ]
            refine wpAnyH_take (i := 5) (oi := ⟨some 136, .move _, _, _, _, _⟩) (v := ?v224) rfl (by kernel_rfl) (by kernel_rfl) (by kernel_rfl) (fun _ _ _ h => h) (Or.inl ⟨by rfl, ?hy224⟩) (by assumption) ?rest224
            case hy224 =>
              intro w hSw

              go_simp
              try with_reducible rfl
            try simp only [Act.put, List.setIfInBounds_toArray, List.set_cons_zero, List.set_cons_succ]
            refine wpAnyH_take (i := 6) (oi := ⟨some 142, .extract _ _, _, _, _, _⟩) (v := ?v225) rfl (by kernel_rfl) (by kernel_rfl) (by kernel_rfl) (fun _ _ _ h => h) (Or.inl ⟨by rfl, ?hy225⟩) (by assumption) ?rest225
            case hy225 =>
              intro w hSw

              go_simp
              try with_reducible rfl
            try simp only [Act.put, List.setIfInBounds_toArray, List.set_cons_zero, List.set_cons_succ]
            refine wpAnyH_take (i := 7) (oi := ⟨some 143, .extract _ _, _, _, _, _⟩) (v := ?v226) rfl (by kernel_rfl) (by kernel_rfl) (by kernel_rfl) (fun _ _ _ h => h) (Or.inl ⟨by rfl, ?hy226⟩) (by assumption) ?rest226
            case hy226 =>
              intro w hSw

              go_simp
              try with_reducible rfl
            try simp only [Act.put, List.setIfInBounds_toArray, List.set_cons_zero, List.set_cons_succ]
            refine wpAnyH_take (i := 8) (oi := ⟨some 144, .extract _ _, _, _, _, _⟩) (v := ?v227) rfl (by kernel_rfl) (by kernel_rfl) (by kernel_rfl) (fun _ _ _ h => h) (Or.inl ⟨by rfl, ?hy227⟩) (by assumption) ?rest227
            case hy227 =>
              intro w hSw

              go_simp
              try with_reducible rfl
            try simp only [Act.put, List.setIfInBounds_toArray, List.set_cons_zero, List.set_cons_succ]
            refine wpAnyH_ready (rs := [10]) (by kernel_rfl) (by simp) ?_
            refine AllReadyH.cons (o := ⟨none, .store _ _ _, _, _, _, _⟩) rfl (fun K hK => ?_) AllReadyH.nil
            refine step_ms_store rfl _ _ rfl wr.heap.size mq Mast.m0 rfl (by rfl) MMAR.out ?_
            intro wZ x4 hg4 hs4
            have LZ := LMAR.out.stored hg4 (by simp) HGT.out
            have AZ := AQMAR.out.stored MMAR.out hg4
            clear hHeld
            refine hK.out _ _ (LZ.cells) (fun hHeld => ?_)
            clear hK K
            try simp only [Act.put]
            refine wpAnyH_take (i := 11) (oi := ⟨some 18, .assign _, _, _, _, _⟩) (v := ?v228) rfl (by kernel_rfl) (by kernel_rfl) (by kernel_rfl) (fun _ _ _ h => h) (Or.inl ⟨by rfl, ?hy228⟩) (by assumption) ?rest228
            case hy228 =>
              intro w hSw

              go_simp
              try with_reducible rfl
            try simp only [Act.put, List.setIfInBounds_toArray, List.set_cons_zero, List.set_cons_succ]
            refine wpAnyH_take (i := 12) (oi := ⟨some 19, .assign _, _, _, _, _⟩) (v := ?v229) rfl (by kernel_rfl) (by kernel_rfl) (by kernel_rfl) (fun _ _ _ h => h) (Or.inl ⟨by rfl, ?hy229⟩) (by assumption) ?rest229
            case hy229 =>
              intro w hSw

              go_simp
              try with_reducible rfl
            try simp only [Act.put, List.setIfInBounds_toArray, List.set_cons_zero, List.set_cons_succ]
            refine wpAnyH_done (by kernel_rfl) ?_ _
            clear hHeld
            have F : ∃ X', wr.heap.size ∈ X' ∧ LwSt w wZ X' d D (gcl conv soft seq size opn) ∧ AnsB w wZ X' n (whS n P 0 (regD D 0 (P + 2))) mq VQ okq ∧ Box wZ wr.heap.size 34 (mcs mq) := ⟨_, by simp, LZ, AZ, x4⟩
            try simp only [World.size_drew]
            generalize wr.heap.size = g9 at F ⊢
            generalize Value.slice AV (P + 2) cV = V9
            exact ⟨g9, V9, mq, VQ, okq, F, rfl⟩
        intro w7 b17 V9 mx VX okx hR9
        obtain ⟨X7, hbx, hl, ha, hb⟩ := hR9
        clear L5
        have HbX := Lib.hid hbx
        have L6 := Lib.hid hl
        have AN1 := Lib.hid ha
        have Bb17 := Lib.hid hb
        clear hbx hl ha hb
        go_wp2_with fail
        apply wp_meet5 (fun W b V m VQ ok => ∃ X', b ∈ X' ∧ b17 ∈ X' ∧ LwSt w W X' d D (gcl conv soft seq size opn) ∧ AnsB w W X' n (whS n P 1 (regD D 1 (P + 2))) m VQ ok ∧ AnsB w W X' n (whS n P 0 (regD D 0 (P + 2))) mx VX okx ∧ Box W b 34 (mcs m) ∧ Box W b17 34 (mcs mx))
        case h =>
          have LS := Lib.hid (L6.out.on (Below.refl _ _).drew)
          have AN1S := Lib.hid (AN1.out.on (Below.refl _ _).drew)
          have Bb17S := Lib.hid (Bb17.out.on (Below.refl _ _).drew)
          refine wp_region_held_drew (S := (fun w' => w'.cell? ⟨w.heap.size, 0, none⟩ = some (.int .i64 conv) ∧ w'.cell? ⟨w.heap.size, 1, none⟩ = some (.int .i64 soft) ∧ w'.cell? ⟨w.heap.size, 2, none⟩ = some (.int .i64 seq) ∧ w'.cell? ⟨w.heap.size, 3, none⟩ = some (.int .i64 size) ∧ w'.cell? ⟨w.heap.size, 4, none⟩ = some (.int .i64 opn))) (by kernel_rfl) (LS.out.cells) (fun hHeld => ?_)
          refine wpAnyH_take (i := 0) (oi := ⟨some 146, .load _ _, _, _, _, _⟩) (v := ?v230) rfl (by kernel_rfl) (by kernel_rfl) (by kernel_rfl) (fun _ _ _ h => h) (Or.inl ⟨by rfl, ?hy230⟩) (by assumption) ?rest230
          case hy230 =>
            intro w hSw
            obtain ⟨hS0, hS1, hS2, hS3, hS4⟩ := hSw
            go_simp
            try with_reducible rfl
          try simp only [Act.put, List.setIfInBounds_toArray, List.set_cons_zero, List.set_cons_succ]
          refine wpAnyH_take (i := 1) (oi := ⟨some 147, .move _, _, _, _, _⟩) (v := ?v231) rfl (by kernel_rfl) (by kernel_rfl) (by kernel_rfl) (fun _ _ _ h => h) (Or.inl ⟨by rfl, ?hy231⟩) (by assumption) ?rest231
          case hy231 =>
            intro w hSw

            go_simp
            try with_reducible rfl
          try simp only [Act.put, List.setIfInBounds_toArray, List.set_cons_zero, List.set_cons_succ]
          refine wpAnyH_take (i := 2) (oi := ⟨some 148, .load _ _, _, _, _, _⟩) (v := ?v232) rfl (by kernel_rfl) (by kernel_rfl) (by kernel_rfl) (fun _ _ _ h => h) (Or.inl ⟨by rfl, ?hy232⟩) (by assumption) ?rest232
          case hy232 =>
            intro w hSw
            obtain ⟨hS0, hS1, hS2, hS3, hS4⟩ := hSw
            go_simp
            try with_reducible rfl
          try simp only [Act.put, List.setIfInBounds_toArray, List.set_cons_zero, List.set_cons_succ]
          refine wpAnyH_ready (rs := [3, 9]) (by kernel_rfl) (by simp) ?_
          refine AllReadyH.cons (o := ⟨some 149, .call _, _, _, _, _⟩) rfl (fun K hK => ?_) (AllReadyH.cons (o := ⟨some 20, .alloc _, _, _, _, _⟩) rfl (fun K hK => ?_) AllReadyH.nil)
          · go_simp
            refine (HAl.out _ _ _ _ 1 HUp.out (by decide) LS.out.dv).mono ?_
            rintro e y1 ⟨V, rfl, hrow, hI, hF⟩
            obtain ⟨AV, cV, rfl⟩ := own_slice hrow
            have LA := Lib.hid (LS.out.put hI hF)
            have RYA := Lib.hid (Rd.own hrow)
            have AN1A := Lib.hid (AN1S.out.fr hF)
            have Bb17A := Lib.hid (hF.box Bb17S.out (by simp [HbX.out]))
            clear hrow hI hF LS AN1S Bb17S
            go_wp2_with fail
            clear hHeld
            refine hK.out _ _ (LA.out.cells) (fun hHeld => ?_)
            clear hK K
            try simp only [Act.put, List.setIfInBounds_toArray, List.set_cons_zero, List.set_cons_succ]
            refine wpAnyH_ready (rs := [4, 9]) (by kernel_rfl) (by simp) ?_
            refine AllReadyH.cons (o := ⟨some 150, .call _, _, _, _, _⟩) rfl (fun K hK => ?_) (AllReadyH.cons (o := ⟨some 20, .alloc _, _, _, _, _⟩) rfl (fun K hK => ?_) AllReadyH.nil)
            · go_simp
              refine (HRead.out _ AV cV 1 (by decide) RYA.out).mono ?_
              rintro e y2 ⟨hpost, hb2⟩
              obtain ⟨mq, VQ, okq, rfl, hans⟩ := hpost.ans
              obtain ⟨YX, hL, hA⟩ := ans_in LA.out hb2 hans
              have LAR := Lib.hid hL
              have AQAR := Lib.hid hA
              have AN1AR := Lib.hid ((AN1A.out.on hb2).more YX)
              have Bb17AR := Lib.hid (Bb17A.out.on hb2)
              clear hpost hans hL hA hb2 RYA LA AN1A Bb17A
              go_wp2_with fail
              clear hHeld
              refine hK.out _ _ (LAR.out.cells) (fun hHeld => ?_)
              clear hK K
              try simp only [Act.put, List.setIfInBounds_toArray, List.set_cons_zero, List.set_cons_succ]
              refine wpAnyH_take (i := 5) (oi := ⟨some 145, .move _, _, _, _, _⟩) (v := ?v233) rfl (by kernel_rfl) (by kernel_rfl) (by kernel_rfl) (fun _ _ _ h => h) (Or.inl ⟨by rfl, ?hy233⟩) (by assumption) ?rest233
              case hy233 =>
                intro w hSw

                go_simp
                try with_reducible rfl
              try simp only [Act.put, List.setIfInBounds_toArray, List.set_cons_zero, List.set_cons_succ]
              refine wpAnyH_take (i := 6) (oi := ⟨some 151, .extract _ _, _, _, _, _⟩) (v := ?v234) rfl (by kernel_rfl) (by kernel_rfl) (by kernel_rfl) (fun _ _ _ h => h) (Or.inl ⟨by rfl, ?hy234⟩) (by assumption) ?rest234
              case hy234 =>
                intro w hSw

                go_simp
                try with_reducible rfl
              try simp only [Act.put, List.setIfInBounds_toArray, List.set_cons_zero, List.set_cons_succ]
              refine wpAnyH_take (i := 7) (oi := ⟨some 152, .extract _ _, _, _, _, _⟩) (v := ?v235) rfl (by kernel_rfl) (by kernel_rfl) (by kernel_rfl) (fun _ _ _ h => h) (Or.inl ⟨by rfl, ?hy235⟩) (by assumption) ?rest235
              case hy235 =>
                intro w hSw

                go_simp
                try with_reducible rfl
              try simp only [Act.put, List.setIfInBounds_toArray, List.set_cons_zero, List.set_cons_succ]
              refine wpAnyH_take (i := 8) (oi := ⟨some 153, .extract _ _, _, _, _, _⟩) (v := ?v236) rfl (by kernel_rfl) (by kernel_rfl) (by kernel_rfl) (fun _ _ _ h => h) (Or.inl ⟨by rfl, ?hy236⟩) (by assumption) ?rest236
              case hy236 =>
                intro w hSw

                go_simp
                try with_reducible rfl
              try simp only [Act.put, List.setIfInBounds_toArray, List.set_cons_zero, List.set_cons_succ]
              refine wpAnyH_ready (rs := [9]) (by kernel_rfl) (by simp) ?_
              refine AllReadyH.cons (o := ⟨some 20, .alloc _, _, _, _, _⟩) rfl (fun K hK => ?_) AllReadyH.nil
              refine step_ms_alloc rfl rfl ?_
              intro y3 xM hBM hsM
              have LARM := Lib.hid (LAR.out.more hBM [y2.heap.size] (by intro b hb; have h2 := xM.lt; simp only [List.mem_cons, List.not_mem_nil, or_false] at hb; subst hb; exact ⟨Nat.le_refl _, h2⟩))
              have MARM : Hid (Box y3 y2.heap.size 34 (mcs Mast.m0)) := Lib.hid xM
              have HGT : Hid (w.heap.size < y2.heap.size) := Lib.hid LAR.out.ge.lt
              have HGB : Hid (b17 < y2.heap.size) := Lib.hid Bb17AR.out.lt
              have AN1ARM := Lib.hid ((AN1AR.out.on hBM).more [y2.heap.size])
              have Bb17ARM := Lib.hid (Bb17AR.out.on hBM)
              have AQARM := Lib.hid ((AQAR.out.on hBM).more [y2.heap.size])
              clear AQAR
              clear xM hBM hsM LAR AN1AR Bb17AR
              clear hHeld
              refine hK.out _ _ (LARM.out.cells) (fun hHeld => ?_)
              clear hK K
              try simp only [Act.put, List.setIfInBounds_toArray, List.set_cons_zero, List.set_cons_succ]
              refine wpAnyH_ready (rs := [10]) (by kernel_rfl) (by simp) ?_
              refine AllReadyH.cons (o := ⟨none, .store _ _ _, _, _, _, _⟩) rfl (fun K hK => ?_) AllReadyH.nil
              refine step_ms_store rfl _ _ rfl y2.heap.size mq Mast.m0 rfl (by rfl) MARM.out ?_
              intro wZ x4 hg4 hs4
              have LZ := LARM.out.stored hg4 (by simp) HGT.out
              have AZ := AQARM.out.stored MARM.out hg4
              have A1Z := AN1ARM.out.stored MARM.out hg4
              have B1Z : Box wZ b17 34 (mcs mx) := Bb17ARM.out.grown hg4 (by have := HGB.out; omega)
              clear hHeld
              refine hK.out _ _ (LZ.cells) (fun hHeld => ?_)
              clear hK K
              try simp only [Act.put]
              refine wpAnyH_take (i := 11) (oi := ⟨some 21, .assign _, _, _, _, _⟩) (v := ?v237) rfl (by kernel_rfl) (by kernel_rfl) (by kernel_rfl) (fun _ _ _ h => h) (Or.inl ⟨by rfl, ?hy237⟩) (by assumption) ?rest237
              case hy237 =>
                intro w hSw

                go_simp
                try with_reducible rfl
              try simp only [Act.put, List.setIfInBounds_toArray, List.set_cons_zero, List.set_cons_succ]
              refine wpAnyH_take (i := 12) (oi := ⟨some 22, .assign _, _, _, _, _⟩) (v := ?v238) rfl (by kernel_rfl) (by kernel_rfl) (by kernel_rfl) (fun _ _ _ h => h) (Or.inl ⟨by rfl, ?hy238⟩) (by assumption) ?rest238
              case hy238 =>
                intro w hSw

                go_simp
                try with_reducible rfl
              try simp only [Act.put, List.setIfInBounds_toArray, List.set_cons_zero, List.set_cons_succ]
              refine wpAnyH_done (by kernel_rfl) ?_ _
              clear hHeld
              have F : ∃ X', y2.heap.size ∈ X' ∧ b17 ∈ X' ∧ LwSt w wZ X' d D (gcl conv soft seq size opn) ∧ AnsB w wZ X' n (whS n P 1 (regD D 1 (P + 2))) mq VQ okq ∧ AnsB w wZ X' n (whS n P 0 (regD D 0 (P + 2))) mx VX okx ∧ Box wZ y2.heap.size 34 (mcs mq) ∧ Box wZ b17 34 (mcs mx) := ⟨_, by simp, by simp [HbX.out], LZ, AZ, A1Z, x4, B1Z⟩
              try simp only [World.size_drew]
              generalize y2.heap.size = g9 at F ⊢
              generalize Value.slice AV (P + 2) cV = V9
              exact ⟨g9, V9, mq, VQ, okq, F, rfl⟩
            · refine step_ms_alloc rfl rfl ?_
              intro y2 xM hBM hsM
              have LAM := Lib.hid (LA.out.more hBM [y1.heap.size] (by intro b hb; have h2 := xM.lt; simp only [List.mem_cons, List.not_mem_nil, or_false] at hb; subst hb; exact ⟨Nat.le_refl _, h2⟩))
              have MAM : Hid (Box y2 y1.heap.size 34 (mcs Mast.m0)) := Lib.hid xM
              have HGT : Hid (w.heap.size < y1.heap.size) := Lib.hid LA.out.ge.lt
              have HGB : Hid (b17 < y1.heap.size) := Lib.hid Bb17A.out.lt
              have AN1AM := Lib.hid ((AN1A.out.on hBM).more [y1.heap.size])
              have Bb17AM := Lib.hid (Bb17A.out.on hBM)
              have RYAM := Lib.hid ((RYA.out.below hBM).more hBM.size)
              clear RYA
              clear xM hBM hsM LA AN1A Bb17A
              clear hHeld
              refine hK.out _ _ (LAM.out.cells) (fun hHeld => ?_)
              clear hK K
              try simp only [Act.put, List.setIfInBounds_toArray, List.set_cons_zero, List.set_cons_succ]
              refine wpAnyH_ready (rs := [4]) (by kernel_rfl) (by simp) ?_
              refine AllReadyH.cons (o := ⟨some 150, .call _, _, _, _, _⟩) rfl (fun K hK => ?_) AllReadyH.nil
              go_simp
              refine (HRead.out _ AV cV 1 (by decide) RYAM.out).mono ?_
              rintro e y3 ⟨hpost, hb2⟩
              obtain ⟨mq, VQ, okq, rfl, hans⟩ := hpost.ans
              obtain ⟨YX, hL, hA⟩ := ans_in LAM.out hb2 hans
              have LAMR := Lib.hid hL
              have AQAMR := Lib.hid hA
              have AN1AMR := Lib.hid ((AN1AM.out.on hb2).more YX)
              have Bb17AMR := Lib.hid (Bb17AM.out.on hb2)
              have MAMR := Lib.hid (MAM.out.on hb2)
              clear hpost hans hL hA hb2 RYAM LAM AN1AM Bb17AM MAM
              go_wp2_with fail
              clear hHeld
              refine hK.out _ _ (LAMR.out.cells) (fun hHeld => ?_)
              clear hK K
              try simp only [Act.put, List.setIfInBounds_toArray, List.set_cons_zero, List.set_cons_succ]
              refine wpAnyH_take (i := 5) (oi := ⟨some 145, .move _, _, _, _, _⟩) (v := ?v239) rfl (by kernel_rfl) (by kernel_rfl) (by kernel_rfl) (fun _ _ _ h => h) (Or.inl ⟨by rfl, ?hy239⟩) (by assumption) ?rest239
              case hy239 =>
                intro w hSw

                go_simp
                try with_reducible rfl
              try simp only [Act.put, List.setIfInBounds_toArray, List.set_cons_zero, List.set_cons_succ]
              refine wpAnyH_take (i := 6) (oi := ⟨some 151, .extract _ _, _, _, _, _⟩) (v := ?v240) rfl (by kernel_rfl) (by kernel_rfl) (by kernel_rfl) (fun _ _ _ h => h) (Or.inl ⟨by rfl, ?hy240⟩) (by assumption) ?rest240
              case hy240 =>
                intro w hSw

                go_simp
                try with_reducible rfl
              try simp only [Act.put, List.setIfInBounds_toArray, List.set_cons_zero, List.set_cons_succ]
              refine wpAnyH_take (i := 7) (oi := ⟨some 152, .extract _ _, _, _, _, _⟩) (v := ?v241) rfl (by kernel_rfl) (by kernel_rfl) (by kernel_rfl) (fun _ _ _ h => h) (Or.inl ⟨by rfl, ?hy241⟩) (by assumption) ?rest241
              case hy241 =>
                intro w hSw

                go_simp
                try with_reducible rfl
              try simp only [Act.put, List.setIfInBounds_toArray, List.set_cons_zero, List.set_cons_succ]
              refine wpAnyH_take (i := 8) (oi := ⟨some 153, .extract _ _, _, _, _, _⟩) (v := ?v242) rfl (by kernel_rfl) (by kernel_rfl) (by kernel_rfl) (fun _ _ _ h => h) (Or.inl ⟨by rfl, ?hy242⟩) (by assumption) ?rest242
              case hy242 =>
                intro w hSw

                go_simp
                try with_reducible rfl
              try simp only [Act.put, List.setIfInBounds_toArray, List.set_cons_zero, List.set_cons_succ]
              refine wpAnyH_ready (rs := [10]) (by kernel_rfl) (by simp) ?_
              refine AllReadyH.cons (o := ⟨none, .store _ _ _, _, _, _, _⟩) rfl (fun K hK => ?_) AllReadyH.nil
              refine step_ms_store rfl _ _ rfl y1.heap.size mq Mast.m0 rfl (by rfl) MAMR.out ?_
              intro wZ x4 hg4 hs4
              have LZ := LAMR.out.stored hg4 (by simp) HGT.out
              have AZ := AQAMR.out.stored MAMR.out hg4
              have A1Z := AN1AMR.out.stored MAMR.out hg4
              have B1Z : Box wZ b17 34 (mcs mx) := Bb17AMR.out.grown hg4 (by have := HGB.out; omega)
              clear hHeld
              refine hK.out _ _ (LZ.cells) (fun hHeld => ?_)
              clear hK K
              try simp only [Act.put]
              refine wpAnyH_take (i := 11) (oi := ⟨some 21, .assign _, _, _, _, _⟩) (v := ?v243) rfl (by kernel_rfl) (by kernel_rfl) (by kernel_rfl) (fun _ _ _ h => h) (Or.inl ⟨by rfl, ?hy243⟩) (by assumption) ?rest243
              case hy243 =>
                intro w hSw

                go_simp
                try with_reducible rfl
              try simp only [Act.put, List.setIfInBounds_toArray, List.set_cons_zero, List.set_cons_succ]
              refine wpAnyH_take (i := 12) (oi := ⟨some 22, .assign _, _, _, _, _⟩) (v := ?v244) rfl (by kernel_rfl) (by kernel_rfl) (by kernel_rfl) (fun _ _ _ h => h) (Or.inl ⟨by rfl, ?hy244⟩) (by assumption) ?rest244
              case hy244 =>
                intro w hSw

                go_simp
                try with_reducible rfl
              try simp only [Act.put, List.setIfInBounds_toArray, List.set_cons_zero, List.set_cons_succ]
              refine wpAnyH_done (by kernel_rfl) ?_ _
              clear hHeld
              have F : ∃ X', y1.heap.size ∈ X' ∧ b17 ∈ X' ∧ LwSt w wZ X' d D (gcl conv soft seq size opn) ∧ AnsB w wZ X' n (whS n P 1 (regD D 1 (P + 2))) mq VQ okq ∧ AnsB w wZ X' n (whS n P 0 (regD D 0 (P + 2))) mx VX okx ∧ Box wZ y1.heap.size 34 (mcs mq) ∧ Box wZ b17 34 (mcs mx) := ⟨_, by simp, by simp [HbX.out], LZ, AZ, A1Z, x4, B1Z⟩
              try simp only [World.size_drew]
              generalize y1.heap.size = g9 at F ⊢
              generalize Value.slice AV (P + 2) cV = V9
              exact ⟨g9, V9, mq, VQ, okq, F, rfl⟩
          · refine step_ms_alloc rfl rfl ?_
            intro y1 xM hBM hsM
            have LM := Lib.hid (LS.out.more hBM [w7.heap.size] (by intro b hb; have h2 := xM.lt; simp only [List.mem_cons, List.not_mem_nil, or_false] at hb; subst hb; exact ⟨Nat.le_refl _, h2⟩))
            have MM : Hid (Box y1 w7.heap.size 34 (mcs Mast.m0)) := Lib.hid xM
            have HGT : Hid (w.heap.size < w7.heap.size) := Lib.hid LS.out.ge.lt
            have HGB : Hid (b17 < w7.heap.size) := Lib.hid Bb17S.out.lt
            have AN1M := Lib.hid ((AN1S.out.on hBM).more [w7.heap.size])
            have Bb17M := Lib.hid (Bb17S.out.on hBM)
            clear xM hBM hsM LS AN1S Bb17S
            clear hHeld
            refine hK.out _ _ (LM.out.cells) (fun hHeld => ?_)
            clear hK K
            try simp only [Act.put, List.setIfInBounds_toArray, List.set_cons_zero, List.set_cons_succ]
            refine wpAnyH_ready (rs := [3]) (by kernel_rfl) (by simp) ?_
            refine AllReadyH.cons (o := ⟨some 149, .call _, _, _, _, _⟩) rfl (fun K hK => ?_) AllReadyH.nil
            go_simp
            refine (HAl.out _ _ _ _ 1 HUp.out (by decide) LM.out.dv).mono ?_
            rintro e y2 ⟨V, rfl, hrow, hI, hF⟩
            obtain ⟨AV, cV, rfl⟩ := own_slice hrow
            have LMA := Lib.hid (LM.out.put hI hF)
            have RYMA := Lib.hid (Rd.own hrow)
            have AN1MA := Lib.hid (AN1M.out.fr hF)
            have Bb17MA := Lib.hid (hF.box Bb17M.out (by simp [HbX.out]))
            have MMA := Lib.hid (hF.box MM.out (by simp))
            clear hrow hI hF LM AN1M Bb17M MM
            go_wp2_with fail
            clear hHeld
            refine hK.out _ _ (LMA.out.cells) (fun hHeld => ?_)
            clear hK K
            try simp only [Act.put, List.setIfInBounds_toArray, List.set_cons_zero, List.set_cons_succ]
            refine wpAnyH_ready (rs := [4]) (by kernel_rfl) (by simp) ?_
            refine AllReadyH.cons (o := ⟨some 150, .call _, _, _, _, _⟩) rfl (fun K hK => ?_) AllReadyH.nil
            go_simp
            refine (HRead.out _ AV cV 1 (by decide) RYMA.out).mono ?_
            rintro e y3 ⟨hpost, hb2⟩
            obtain ⟨mq, VQ, okq, rfl, hans⟩ := hpost.ans
            obtain ⟨YX, hL, hA⟩ := ans_in LMA.out hb2 hans
            have LMAR := Lib.hid hL
            have AQMAR := Lib.hid hA
            have AN1MAR := Lib.hid ((AN1MA.out.on hb2).more YX)
            have Bb17MAR := Lib.hid (Bb17MA.out.on hb2)
            have MMAR := Lib.hid (MMA.out.on hb2)
            clear hpost hans hL hA hb2 RYMA LMA AN1MA Bb17MA MMA
            go_wp2_with fail
            clear hHeld
            refine hK.out _ _ (LMAR.out.cells) (fun hHeld => ?_)
            clear hK K
            try simp only [Act.put, List.setIfInBounds_toArray, List.set_cons_zero, List.set_cons_succ]
            refine wpAnyH_take (i := 5) (oi := ⟨some 145, .move _, _, _, _, _⟩) (v := ?v245) rfl (by kernel_rfl) (by kernel_rfl) (by kernel_rfl) (fun _ _ _ h => h) (Or.inl ⟨by rfl, ?hy245⟩) (by assumption) ?rest245
            case hy245 =>
              intro w hSw

              go_simp
              try with_reducible rfl
            try simp only [Act.put, List.setIfInBounds_toArray, List.set_cons_zero, List.set_cons_succ]
            refine wpAnyH_take (i := 6) (oi := ⟨some 151, .extract _ _, _, _, _, _⟩) (v := ?v246) rfl (by kernel_rfl) (by kernel_rfl) (by kernel_rfl) (fun _ _ _ h => h) (Or.inl ⟨by rfl, ?hy246⟩) (by assumption) ?rest246
            case hy246 =>
              intro w hSw

              go_simp
              try with_reducible rfl
            try simp only [Act.put, List.setIfInBounds_toArray, List.set_cons_zero, List.set_cons_succ]
            refine wpAnyH_take (i := 7) (oi := ⟨some 152, .extract _ _, _, _, _, _⟩) (v := ?v247) rfl (by kernel_rfl) (by kernel_rfl) (by kernel_rfl) (fun _ _ _ h => h) (Or.inl ⟨by rfl, ?hy247⟩) (by assumption) ?rest247
            case hy247 =>
              intro w hSw

              go_simp
              try with_reducible rfl
            try simp only [Act.put, List.setIfInBounds_toArray, List.set_cons_zero, List.set_cons_succ]
            refine wpAnyH_take (i := 8) (oi := ⟨some 153, .extract _ _, _, _, _, _⟩) (v := ?v248) rfl (by kernel_rfl) (by kernel_rfl) (by kernel_rfl) (fun _ _ _ h => h) (Or.inl ⟨by rfl, ?hy248⟩) (by assumption) ?rest248
            case hy248 =>
              intro w hSw

              go_simp
              try with_reducible rfl
            try simp only [Act.put, List.setIfInBounds_toArray, List.set_cons_zero, List.set_cons_succ]
            refine wpAnyH_ready (rs := [10]) (by kernel_rfl) (by simp) ?_
            refine AllReadyH.cons (o := ⟨none, .store _ _ _, _, _, _, _⟩) rfl (fun K hK => ?_) AllReadyH.nil
            refine step_ms_store rfl _ _ rfl w7.heap.size mq Mast.m0 rfl (by rfl) MMAR.out ?_
            intro wZ x4 hg4 hs4
            have LZ := LMAR.out.stored hg4 (by simp) HGT.out
            have AZ := AQMAR.out.stored MMAR.out hg4
            have A1Z := AN1MAR.out.stored MMAR.out hg4
            have B1Z : Box wZ b17 34 (mcs mx) := Bb17MAR.out.grown hg4 (by have := HGB.out; omega)
            clear hHeld
            refine hK.out _ _ (LZ.cells) (fun hHeld => ?_)
            clear hK K
            try simp only [Act.put]
            refine wpAnyH_take (i := 11) (oi := ⟨some 21, .assign _, _, _, _, _⟩) (v := ?v249) rfl (by kernel_rfl) (by kernel_rfl) (by kernel_rfl) (fun _ _ _ h => h) (Or.inl ⟨by rfl, ?hy249⟩) (by assumption) ?rest249
            case hy249 =>
              intro w hSw

              go_simp
              try with_reducible rfl
            try simp only [Act.put, List.setIfInBounds_toArray, List.set_cons_zero, List.set_cons_succ]
            refine wpAnyH_take (i := 12) (oi := ⟨some 22, .assign _, _, _, _, _⟩) (v := ?v250) rfl (by kernel_rfl) (by kernel_rfl) (by kernel_rfl) (fun _ _ _ h => h) (Or.inl ⟨by rfl, ?hy250⟩) (by assumption) ?rest250
            case hy250 =>
              intro w hSw

              go_simp
              try with_reducible rfl
            try simp only [Act.put, List.setIfInBounds_toArray, List.set_cons_zero, List.set_cons_succ]
            refine wpAnyH_done (by kernel_rfl) ?_ _
            clear hHeld
            have F : ∃ X', w7.heap.size ∈ X' ∧ b17 ∈ X' ∧ LwSt w wZ X' d D (gcl conv soft seq size opn) ∧ AnsB w wZ X' n (whS n P 1 (regD D 1 (P + 2))) mq VQ okq ∧ AnsB w wZ X' n (whS n P 0 (regD D 0 (P + 2))) mx VX okx ∧ Box wZ w7.heap.size 34 (mcs mq) ∧ Box wZ b17 34 (mcs mx) := ⟨_, by simp, by simp [HbX.out], LZ, AZ, A1Z, x4, B1Z⟩
            try simp only [World.size_drew]
            generalize w7.heap.size = g9 at F ⊢
            generalize Value.slice AV (P + 2) cV = V9
            exact ⟨g9, V9, mq, VQ, okq, F, rfl⟩
        intro w8 b20 V9b my VY oky hR9
        obtain ⟨X8, hbx, hbx17, hl, ha, ha1, hb, hb1⟩ := hR9
        clear L6 AN1 Bb17 HbX
        have HbX := Lib.hid (And.intro hbx17 hbx)
        have LR := Lib.hid hl
        have AN2 := Lib.hid ha
        have AN1 := Lib.hid ha1
        have Bb20 := Lib.hid hb
        have Bb17 := Lib.hid hb1
        clear hbx hbx17 hl ha ha1 hb hb1
        clear HRead HAl
        generalize whS n P 0 (regD D 0 (P + 2)) = R0 at AN1 HPkE HQ0
        generalize whS n P 1 (regD D 1 (P + 2)) = R1 at AN2 HPkE HQ1
        cases R0 with
        | none =>
          obtain rfl : okx = false := AN1.out
          cases R1 with
          | none =>
            obtain rfl : oky = false := AN2.out
            have HPk : Hid (pickS D n P = none) := Lib.hid HPkE.out
            obtain ⟨c0, c1, c2, c3, c4⟩ := LR.out.cells
            go_wp2_with fail
            refine (lw_pick HM.out.1 LR.out HUp.out.n.ok HUp.out.od HUp.out.up HUp.out.so).mono ?_
            rw [HPk.out]
            rintro e wP ⟨hp, hF⟩
            unfold LwPk at hp
            obtain ⟨rfl, hL⟩ := hp
            have LP := Lib.hid hL
            have HB9 := Lib.hid LP.out.dv.2.1
            clear hL hF c0 c1 c2 c3 c4 LR AN1 AN2 Bb17 Bb20
            have hqm := fun w' => equal_mast w' Mast.m0 Mast.m0
            rw [(msEq_iff Mast.m0 Mast.m0).2 rfl] at hqm
            have hgm := guard_mast
            go_wp2_with (first
              | ((with_reducible refine wpList_ms_alloc (o := ⟨some 23, .alloc _, _, _, _, _⟩) rfl rfl ?_); intro wD xD hBD hsD)
              | ((with_reducible refine wpList_ms_store (o := ⟨none, .store _ (.tmp 23) _, _, _, _, _⟩) rfl _ _ rfl wP.heap.size Mast.m0 Mast.m0 rfl rfl xD ?_); go_loud (intro wE xE hgE hsE; have KE := below_stored hBD hgE hBD.size (Nat.le_refl _); have HBL := Lib.hid (bthen HB9.out KE); clear xD hBD hsD xE hgE hsE KE LP; generalize wP.heap.size = b23 at *))
              | fail)
            go_ret
            exact ⟨rfl, HBL.out⟩
          | some y =>
            obtain ⟨my0, ys0⟩ := y
            obtain ⟨rfl, rfl, hrw⟩ := id AN2.out
            obtain ⟨AY, cY, rfl⟩ := own_slice hrw.1
            clear hrw
            have HPk : Hid (pickS D n P = some (my, ys0)) := Lib.hid (by rw [HPkE.out]; exact pkF_yes (by have := (HQ1.out _ _ rfl).2; exact this))
            obtain ⟨c0, c1, c2, c3, c4⟩ := LR.out.cells
            go_wp2_with fail
            refine (lw_pick HM.out.1 LR.out HUp.out.n.ok HUp.out.od HUp.out.up HUp.out.so).mono ?_
            rw [HPk.out]
            rintro e wP ⟨hp, hF⟩
            unfold LwPk at hp
            obtain ⟨dt, gt, ht, rfl, htb, hL⟩ := hp
            have LP := Lib.hid hL
            have VP := Lib.hid htb
            have AN1P := Lib.hid (AN1.out.fr hF)
            have AN2P := Lib.hid (AN2.out.fr hF)
            have B17P := Lib.hid (hF.box Bb17.out HbX.out.1)
            have B20P := Lib.hid (hF.box Bb20.out HbX.out.2)
            clear hL hF htb c0 c1 c2 c3 c4 LR AN1 AN2 Bb17 Bb20
            simp only at VP
            have hqm := fun w' => equal_mast w' my my
            rw [(msEq_iff my my).2 rfl] at hqm
            have hgm := guard_mast
            go_wp2_with (first
              | ((with_reducible refine wpList_ms_alloc (o := ⟨some 23, .alloc _, _, _, _, _⟩) rfl rfl ?_); intro wD xD hBD hsD)
              | ((with_reducible refine wpList_ms_store (o := ⟨none, .store _ (.tmp 23) _, _, _, _, _⟩) rfl _ _ rfl wP.heap.size my Mast.m0 rfl rfl xD ?_); go_loud (intro wE xE hgE hsE; have KE := below_stored hBD hgE hBD.size (Nat.le_refl _); have VE := Lib.hid (VP.out.on KE); have A1E := Lib.hid (AN1P.out.on KE); have A2E := Lib.hid (AN2P.out.on KE); have HBL := Lib.hid (bthen LP.out.dv.2.1 KE); have ca23 := LA.out _ _ _ xE; have B17E := B17P.out.on KE; have B20E := B20P.out.on KE; have ca17 := LA.out _ _ _ B17E; have ca20 := LA.out _ _ _ B20E; have cg17 : wE.cell? ⟨b17, 1, none⟩ = some (.int .i64 mx.gen) := B17E.cell 1; have cg20 : wE.cell? ⟨b20, 1, none⟩ = some (.int .i64 my.gen) := B20E.cell 1; clear B17E B20E VP AN1P AN2P B17P B20P; clear xD hBD hsD xE hgE hsE KE LP; generalize wP.heap.size = b23 at *))
              | fail)
            refine (tplaces_any wE VE.out).mono ?_
            rintro e wF ⟨z2, rfl, zb1, zl1, b1⟩
            have HBF := Lib.hid (bthen HBL.out b1)
            have ZF := Lib.hid zb1
            have RF := Lib.hid (A2E.out.2.2.on b1)
            clear zb1 zl1 b1 VE A1E A2E HBL ca17 ca20 ca23 cg17 cg20 hqm hgm
            have hyl : (ys0.take n).length = n := by have h := RF.out.1.1; simp [is] at h ⊢; omega
            go_wp2_with fail
            refine (isame_any (some ⟨z2, 0, none⟩) AY n n n cY wF HNm.out HNm.out (ys0.take n) (ys0.take n) hyl hyl wF.heap.size (ZF.out.rd ZF.out.lt) (Rd.own RF.out.1)).mono ?_
            rintro e wG ⟨rfl, q4, rfl⟩
            have HBG := Lib.hid (bthen HBF.out (below_draws (Below.refl _ _) q4))
            clear HBF ZF RF
            rw [beq_self_eq_true]
            go_wp2
            go_ret
            exact ⟨rfl, HBG.out⟩
        | some x =>
          obtain ⟨mx0, xs0⟩ := x
          obtain ⟨rfl, rfl, hrw⟩ := id AN1.out
          obtain ⟨AX, cX, rfl⟩ := own_slice hrw.1
          clear hrw
          have HP0 : Hid (pkF none (some (mx, xs0)) = some (mx, xs0)) := Lib.hid (pkF_yes (by have := (HQ0.out _ _ rfl).2; exact this))
          cases R1 with
          | none =>
            obtain rfl : oky = false := AN2.out
            have HPk : Hid (pickS D n P = some (mx, xs0)) := Lib.hid (by rw [HPkE.out, HP0.out]; rfl)
            obtain ⟨c0, c1, c2, c3, c4⟩ := LR.out.cells
            go_wp2_with fail
            refine (lw_pick HM.out.1 LR.out HUp.out.n.ok HUp.out.od HUp.out.up HUp.out.so).mono ?_
            rw [HPk.out]
            rintro e wP ⟨hp, hF⟩
            unfold LwPk at hp
            obtain ⟨dt, gt, ht, rfl, htb, hL⟩ := hp
            have LP := Lib.hid hL
            have VP := Lib.hid htb
            have AN1P := Lib.hid (AN1.out.fr hF)
            have AN2P := Lib.hid (AN2.out.fr hF)
            have B17P := Lib.hid (hF.box Bb17.out HbX.out.1)
            have B20P := Lib.hid (hF.box Bb20.out HbX.out.2)
            clear hL hF htb c0 c1 c2 c3 c4 LR AN1 AN2 Bb17 Bb20
            simp only at VP
            have hqm := fun w' => equal_mast w' mx mx
            rw [(msEq_iff mx mx).2 rfl] at hqm
            have hgm := guard_mast
            go_wp2_with (first
              | ((with_reducible refine wpList_ms_alloc (o := ⟨some 23, .alloc _, _, _, _, _⟩) rfl rfl ?_); intro wD xD hBD hsD)
              | ((with_reducible refine wpList_ms_store (o := ⟨none, .store _ (.tmp 23) _, _, _, _, _⟩) rfl _ _ rfl wP.heap.size mx Mast.m0 rfl rfl xD ?_); go_loud (intro wE xE hgE hsE; have KE := below_stored hBD hgE hBD.size (Nat.le_refl _); have VE := Lib.hid (VP.out.on KE); have A1E := Lib.hid (AN1P.out.on KE); have A2E := Lib.hid (AN2P.out.on KE); have HBL := Lib.hid (bthen LP.out.dv.2.1 KE); have ca23 := LA.out _ _ _ xE; have B17E := B17P.out.on KE; have B20E := B20P.out.on KE; have ca17 := LA.out _ _ _ B17E; have ca20 := LA.out _ _ _ B20E; have cg17 : wE.cell? ⟨b17, 1, none⟩ = some (.int .i64 mx.gen) := B17E.cell 1; have cg20 : wE.cell? ⟨b20, 1, none⟩ = some (.int .i64 my.gen) := B20E.cell 1; clear B17E B20E VP AN1P AN2P B17P B20P; clear xD hBD hsD xE hgE hsE KE LP; generalize wP.heap.size = b23 at *))
              | fail)
            refine (tplaces_any wE VE.out).mono ?_
            rintro e wF ⟨z2, rfl, zb1, zl1, b1⟩
            have HBF := Lib.hid (bthen HBL.out b1)
            have ZF := Lib.hid zb1
            have RF := Lib.hid (A1E.out.2.2.on b1)
            clear zb1 zl1 b1 VE A1E A2E HBL ca17 ca20 ca23 cg17 cg20 hqm hgm
            have hyl : (xs0.take n).length = n := by have h := RF.out.1.1; simp [is] at h ⊢; omega
            go_wp2_with fail
            refine (isame_any (some ⟨z2, 0, none⟩) AX n n n cX wF HNm.out HNm.out (xs0.take n) (xs0.take n) hyl hyl wF.heap.size (ZF.out.rd ZF.out.lt) (Rd.own RF.out.1)).mono ?_
            rintro e wG ⟨rfl, q4, rfl⟩
            have HBG := Lib.hid (bthen HBF.out (below_draws (Below.refl _ _) q4))
            clear HBF ZF RF
            rw [beq_self_eq_true]
            go_wp2
            go_ret
            exact ⟨rfl, HBG.out⟩
          | some y =>
            obtain ⟨my0, ys0⟩ := y
            obtain ⟨rfl, rfl, hrw⟩ := id AN2.out
            obtain ⟨AY, cY, rfl⟩ := own_slice hrw.1
            clear hrw
            have hpx := (HQ0.out _ _ rfl).1
            have hpy := (HQ1.out _ _ rfl).1
            by_cases hgt : my.gen < mx.gen
            · have HPk : Hid (pickS D n P = some (mx, xs0)) := Lib.hid (by rw [HPkE.out, HP0.out]; exact pkF_no (by show ¬ mx.gen < my.gen; omega))
              clear hpx hpy
              obtain ⟨c0, c1, c2, c3, c4⟩ := LR.out.cells
              go_wp2_with fail
              refine (lw_pick HM.out.1 LR.out HUp.out.n.ok HUp.out.od HUp.out.up HUp.out.so).mono ?_
              rw [HPk.out]
              rintro e wP ⟨hp, hF⟩
              unfold LwPk at hp
              obtain ⟨dt, gt, ht, rfl, htb, hL⟩ := hp
              have LP := Lib.hid hL
              have VP := Lib.hid htb
              have AN1P := Lib.hid (AN1.out.fr hF)
              have AN2P := Lib.hid (AN2.out.fr hF)
              have B17P := Lib.hid (hF.box Bb17.out HbX.out.1)
              have B20P := Lib.hid (hF.box Bb20.out HbX.out.2)
              clear hL hF htb c0 c1 c2 c3 c4 LR AN1 AN2 Bb17 Bb20
              simp only at VP
              have hqm := fun w' => equal_mast w' mx mx
              rw [(msEq_iff mx mx).2 rfl] at hqm
              have hgm := guard_mast
              go_wp2_with (first
                | ((with_reducible refine wpList_ms_alloc (o := ⟨some 23, .alloc _, _, _, _, _⟩) rfl rfl ?_); intro wD xD hBD hsD)
                | ((with_reducible refine wpList_ms_store (o := ⟨none, .store _ (.tmp 23) _, _, _, _, _⟩) rfl _ _ rfl wP.heap.size mx Mast.m0 rfl rfl xD ?_); go_loud (intro wE xE hgE hsE; have KE := below_stored hBD hgE hBD.size (Nat.le_refl _); have VE := Lib.hid (VP.out.on KE); have A1E := Lib.hid (AN1P.out.on KE); have A2E := Lib.hid (AN2P.out.on KE); have HBL := Lib.hid (bthen LP.out.dv.2.1 KE); have ca23 := LA.out _ _ _ xE; have B17E := B17P.out.on KE; have B20E := B20P.out.on KE; have ca17 := LA.out _ _ _ B17E; have ca20 := LA.out _ _ _ B20E; have cg17 : wE.cell? ⟨b17, 1, none⟩ = some (.int .i64 mx.gen) := B17E.cell 1; have cg20 : wE.cell? ⟨b20, 1, none⟩ = some (.int .i64 my.gen) := B20E.cell 1; clear B17E B20E VP AN1P AN2P B17P B20P; clear xD hBD hsD xE hgE hsE KE LP; generalize wP.heap.size = b23 at *))
                | fail)
              refine (tplaces_any wE VE.out).mono ?_
              rintro e wF ⟨z2, rfl, zb1, zl1, b1⟩
              have HBF := Lib.hid (bthen HBL.out b1)
              have ZF := Lib.hid zb1
              have RF := Lib.hid (A1E.out.2.2.on b1)
              clear zb1 zl1 b1 VE A1E A2E HBL ca17 ca20 ca23 cg17 cg20 hqm hgm
              have hyl : (xs0.take n).length = n := by have h := RF.out.1.1; simp [is] at h ⊢; omega
              go_wp2_with fail
              refine (isame_any (some ⟨z2, 0, none⟩) AX n n n cX wF HNm.out HNm.out (xs0.take n) (xs0.take n) hyl hyl wF.heap.size (ZF.out.rd ZF.out.lt) (Rd.own RF.out.1)).mono ?_
              rintro e wG ⟨rfl, q4, rfl⟩
              have HBG := Lib.hid (bthen HBF.out (below_draws (Below.refl _ _) q4))
              clear HBF ZF RF
              rw [beq_self_eq_true]
              go_wp2
              go_ret
              exact ⟨rfl, HBG.out⟩
            · have HPk : Hid (pickS D n P = some (my, ys0)) := Lib.hid (by rw [HPkE.out, HP0.out]; exact pkF_yes (by show mx.gen < my.gen; omega))
              clear hpx hpy
              obtain ⟨c0, c1, c2, c3, c4⟩ := LR.out.cells
              go_wp2_with fail
              refine (lw_pick HM.out.1 LR.out HUp.out.n.ok HUp.out.od HUp.out.up HUp.out.so).mono ?_
              rw [HPk.out]
              rintro e wP ⟨hp, hF⟩
              unfold LwPk at hp
              obtain ⟨dt, gt, ht, rfl, htb, hL⟩ := hp
              have LP := Lib.hid hL
              have VP := Lib.hid htb
              have AN1P := Lib.hid (AN1.out.fr hF)
              have AN2P := Lib.hid (AN2.out.fr hF)
              have B17P := Lib.hid (hF.box Bb17.out HbX.out.1)
              have B20P := Lib.hid (hF.box Bb20.out HbX.out.2)
              clear hL hF htb c0 c1 c2 c3 c4 LR AN1 AN2 Bb17 Bb20
              simp only at VP
              have hqm := fun w' => equal_mast w' my my
              rw [(msEq_iff my my).2 rfl] at hqm
              have hgm := guard_mast
              go_wp2_with (first
                | ((with_reducible refine wpList_ms_alloc (o := ⟨some 23, .alloc _, _, _, _, _⟩) rfl rfl ?_); intro wD xD hBD hsD)
                | ((with_reducible refine wpList_ms_store (o := ⟨none, .store _ (.tmp 23) _, _, _, _, _⟩) rfl _ _ rfl wP.heap.size my Mast.m0 rfl rfl xD ?_); go_loud (intro wE xE hgE hsE; have KE := below_stored hBD hgE hBD.size (Nat.le_refl _); have VE := Lib.hid (VP.out.on KE); have A1E := Lib.hid (AN1P.out.on KE); have A2E := Lib.hid (AN2P.out.on KE); have HBL := Lib.hid (bthen LP.out.dv.2.1 KE); have ca23 := LA.out _ _ _ xE; have B17E := B17P.out.on KE; have B20E := B20P.out.on KE; have ca17 := LA.out _ _ _ B17E; have ca20 := LA.out _ _ _ B20E; have cg17 : wE.cell? ⟨b17, 1, none⟩ = some (.int .i64 mx.gen) := B17E.cell 1; have cg20 : wE.cell? ⟨b20, 1, none⟩ = some (.int .i64 my.gen) := B20E.cell 1; clear B17E B20E VP AN1P AN2P B17P B20P; clear xD hBD hsD xE hgE hsE KE LP; generalize wP.heap.size = b23 at *))
                | fail)
              refine (tplaces_any wE VE.out).mono ?_
              rintro e wF ⟨z2, rfl, zb1, zl1, b1⟩
              have HBF := Lib.hid (bthen HBL.out b1)
              have ZF := Lib.hid zb1
              have RF := Lib.hid (A2E.out.2.2.on b1)
              clear zb1 zl1 b1 VE A1E A2E HBL ca17 ca20 ca23 cg17 cg20 hqm hgm
              have hyl : (ys0.take n).length = n := by have h := RF.out.1.1; simp [is] at h ⊢; omega
              go_wp2_with fail
              refine (isame_any (some ⟨z2, 0, none⟩) AY n n n cY wF HNm.out HNm.out (ys0.take n) (ys0.take n) hyl hyl wF.heap.size (ZF.out.rd ZF.out.lt) (Rd.own RF.out.1)).mono ?_
              rintro e wG ⟨rfl, q4, rfl⟩
              have HBG := Lib.hid (bthen HBF.out (below_draws (Below.refl _ _) q4))
              clear HBF ZF RF
              rw [beq_self_eq_true]
              go_wp2
              go_ret
              exact ⟨rfl, HBG.out⟩

end Go.Proofs.YtgnpohkippegpaaGreat

/-
  ZoneH ZoneI
-/
import Derived.Test.YthgjlofebicpiaaMg23
import Derived.Test.YthgjlofebicpiaaMg20
/-
  The zones of a device to which nothing was done: New, by the program and by the document.
-/
namespace Go.Proofs.Ythgjlofebicpiaa
open Go.RowKit Geom Zone
set_option linter.unusedVariables false

set_option maxRecDepth 100000 in
/-- make of n zones -/
theorem wpList_make_zones {P : Program} (w : World) {ops : Array Oper} {rest : List Oper} {o : Oper} {a : Act} {Q : Exit → Act → World → Prop} (hgd : o.guard = none) (l c : Operand) (t : TypeId) (ho : o.op = .makeSlice t l c)
    (e : TypeId) (bytes : Nat) (he : Elem P t e (.agg #[.int .i64 0, .int .i64 0]) 2 bytes) (kl kc : IntKind) (n : Nat) (N : Int) (hl : a.eval l = .int kl N) (hc : a.eval c = .int kc N) (hN : N = (n : Int))
    (h63 : n ≤ maxLen) (hbytes : bytes * n ≤ 281474976710656)
    (h : ∀ w', w'.ownsRow w.heap.size e 2 (.slice (some ⟨w.heap.size, 0, none⟩) n n) n (zc (List.replicate n (0, 0))) → Below w.heap.size w w' → wpList P ops Q rest (a.put o.dst (.slice (some ⟨w.heap.size, 0, none⟩) n n)) w') : wpList P ops Q (o :: rest) a w := by
  obtain ⟨ht, i, hi, hz1, hsize, hby, hzs, hsz⟩ := he
  refine wpList_make_full w hgd l c t ho w.heap.size e i _ 2 ht hi hz1 hsize kl kc N N n hl hc hN hN (by rw [hby]; exact hbytes) h63 (Nat.le_refl _) ?_
  intro w' hown hg
  have e2 : (Value.agg #[.int .i64 0, .int .i64 0]).cells = #[.int .i64 0, .int .i64 0] := rfl
  rw [e2, made_zone] at hown
  exact h w' hown ((Below.refl _ _).grown hg (Nat.le_refl _) (fun k hk => by cases hk))

set_option maxRecDepth 100000 in
theorem new_any (conv soft seq size opn : Int) (n : Nat) (w : World) (H : Ok conv soft seq size opn) (hn : (n : Int) = conv + seq) :
    Calls Try.prog 39 #[.agg #[.int .i64 conv, .int .i64 soft, .int .i64 seq, .int .i64 size, .int .i64 opn]] w fun e w' =>
      ∃ g, e = .returned (.slice (some ⟨g, 0, none⟩) n n) ∧ w'.ownsRow w.heap.size 66 2 (.slice (some ⟨g, 0, none⟩) n n) n (zc (newK n conv.toNat)) ∧ Below w.heap.size w w' := by
  have HZ := Lib.hid fun w => zones_any conv soft seq size opn w H.some
  have HR := Lib.hid fun w => right_any conv soft seq size opn w (by have := H.some.2.2.1; have := H.some.1; omega)
  rw [ok_yes H] at HR
  obtain ⟨q1, q2, q3, q4, q5⟩ := H.some
  clear H
  have H0 := Lib.hid (One.new w conv soft seq size opn 23)
  go_enter Try.func39, Try.ntmps39
  go_wp2_with fail
  generalize World.alloc _ _ = w0 at H0 ⊢
  refine (HR.out _).mono ?_
  rintro e w1 ⟨rfl, hb⟩
  have h1 := One.below H0.out hb
  clear H0 hb
  obtain ⟨c0, c1, c2, c3, c4, hlt⟩ := id h1.1
  go_wp2_with fail
  refine (HZ.out _).mono ?_
  rintro e w2 ⟨rfl, hb⟩
  have h2 := One.below h1 hb
  clear c0 c1 c2 c3 c4 hlt h1 hb
  go_wp2_with ((with_reducible refine wpList_make_zones _ (o := ⟨some _, .makeSlice _ _ _, _, _, _, _⟩) rfl _ _ _ rfl 66 16 elemZ .i64 .i64 n _ rfl rfl hn.symm (by simp only [maxLen]; omega) (by omega) ?_); intro w3 hown hb3; have Hb := Lib.hid (One.below h2 hb3).2; have Hown := Lib.hid (own_base hown h2.2.size); obtain ⟨c0, c1, c2, c3, c4, hlt⟩ := id (One.below h2 hb3).1; have hgl := h2.2.size; generalize w2.heap.size = g at *; clear h2 hown hb3)
  go_loopw [13] (fun i wr => ∃ k : Nat, (k : Int) ≤ conv ∧ i = .int .i64 k ∧ wr.ownsRow w.heap.size 66 2 (.slice (some ⟨g, 0, none⟩) n n) n (zc (newK n k)) ∧ Below w.heap.size w wr) (fun i _ => conv.toNat - (intOf i).toNat)
  case atStart => exact ⟨0, by omega, rfl, by rw [newK_zero]; exact Hown.out, Hb.out⟩
  case round =>
    clear c0 c1 c2 c3 c4 hlt Hown Hb
    obtain ⟨k, hk, rfl, hown, hbl⟩ := hrel
    by_cases hlt : (k : Int) < conv
    · have hkn : k < n := by omega
      have hc := hown.cellAt (k * 2) (by omega)
      have hf := hown.frozenAt (k * 2)
      rw [zc_get0 (newK_at hkn)] at hc
      obtain ⟨hown2, hgr⟩ := hown.stored (k * 2) (.int .i64 4)
      rw [zc_set0 (newK_at hkn), newK_set hkn] at hown2
      have Hown2 := Lib.hid hown2
      have Hb2 := Lib.hid (below_stored hbl hgr hbl.size hgl)
      clear hown hown2 hgr hbl
      go_wp2
      go_roundw
      case rel => exact ⟨k + 1, by omega, by go_num, Hown2.out, Hb2.out⟩
      case measure => simp [intOf]; omega
    · have hkc : conv.toNat = k := by omega
      rw [hkc]
      have Hown2 := Lib.hid hown
      clear hown
      go_wp2
      go_ret
      exact ⟨g, rfl, Hown2.out, hbl⟩

end Go.Proofs.Ythgjlofebicpiaa

/-
  Are zones right? By the program.
-/
namespace Go.Proofs.Ythgjlofebicpiaa
open Go.RowKit Geom Zone
set_option linter.unusedVariables false

theorem One.alloc {w w' : World} {conv soft seq size opn : Int} (h : One w w' conv soft seq size opn) (o : Obj) : One w (w'.alloc o) conv soft seq size opn := h.below ((Below.refl _ _).alloc (Nat.le_refl _) o)
theorem Rd.one {w w' : World} {conv soft seq size opn : Int} {A : Option Addr} {xs : List Value} (hr : Rd w w.heap.size A xs) (h : One w w' conv soft seq size opn) : Rd w' w'.heap.size A xs := (hr.below h.2).more h.2.size

end Go.Proofs.Ythgjlofebicpiaa

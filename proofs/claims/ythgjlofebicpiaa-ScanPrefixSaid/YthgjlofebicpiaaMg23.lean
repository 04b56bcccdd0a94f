/-
  ZoneF ZoneG
-/
import Derived.Test.YthgjlofebicpiaaMg22
import Derived.Test.YthgjlofebicpiaaMg09
import Derived.Deep.MidRow
/-
  Package zone: how many are open (by the program, by the document); a copy of zones; zones with another one in a place; are two lists of zones one; is there such a sector.
-/
namespace Go.Proofs.Ythgjlofebicpiaa
open Go.RowKit Geom Zone
set_option linter.unusedVariables false

/-- a zone of zones that lie in a row -/
theorem Rd.zone {w : World} {B k : Nat} {A : Option Addr} {L : List Z} {z : Z} (h : Rd w B A (zc L)) (hz : L[k]? = some z) :
    ∃ ad, A = some ad ∧ ad.block < B ∧ w.cell? (ad.add (k * 2)) = some (.int .i64 z.1) ∧ w.cell? ⟨(ad.add (k * 2)).block, (ad.add (k * 2)).off + 1, none⟩ = some (.int .i64 z.2) := by
  obtain ⟨ad, rfl, hb, hc⟩ := h.at (zc_get0 hz)
  exact ⟨ad, rfl, hb, hc, by
    have e : (⟨(ad.add (k * 2)).block, (ad.add (k * 2)).off + 1, none⟩ : Addr) = (ad.add (k * 2)).add 1 := by simp [Addr.add]
    rw [e, addr_add_add]
    exact h.tail_at (zc_get1 hz)⟩
theorem cnt_same {L : List Z} {k : Nat} {z : Z} (h : L[k]? = some z) (h1 : ¬ z.1 = 1) : cnt (L.take (k + 1)) = cnt (L.take k) := by
  rw [cnt_take h, if_neg h1]
  rfl
theorem cnt_more {L : List Z} {k : Nat} {z : Z} (h : L[k]? = some z) (h1 : z.1 = 1) : cnt (L.take (k + 1)) = cnt (L.take k) + 1 := by
  rw [cnt_take h, if_pos h1]

theorem countOpen_any (A : Option Addr) (n cap : Nat) (L : List Z) (w : World) (hm : n ≤ maxLen) (hn : L.length = n) (hr : Rd w w.heap.size A (zc L)) :
    Calls Try.prog 91 #[.slice A n cap] w fun e w' => e = .returned (.int .i64 (cnt L)) ∧ Below w.heap.size w w' := by
  unfold maxLen at hm
  have HN := Lib.hid hn
  clear hn
  go_enter Try.func91, Try.ntmps91
  go_wp2
  go_loopw [3, 8] (fun c i wr => ∃ k : Nat, k ≤ n ∧ i = .int .i64 k ∧ c = .int .i64 (cnt (L.take k)) ∧ Below w.heap.size w wr) (fun _ i _ => n - (intOf i).toNat)
  case atStart => exact ⟨0, by omega, rfl, rfl, Below.refl _ _⟩
  case round =>
    obtain ⟨k, hk, rfl, rfl, hbl⟩ := hrel
    by_cases hlt : k < n
    · have hz := getD_of (L := L) (k := k) (d := (0, 0)) (by rw [HN.out]; exact hlt)
      have hrw := (hr.below hbl)
      obtain ⟨ad, rfl, _, hc, hc1⟩ := hrw.zone hz
      have hsz := hbl.size
      have hb2 := Lib.hid fun o => hbl.alloc hsz o
      have hle := cnt_take_le L k
      generalize L.getD k (0, 0) = z at *
      clear hrw hr
      by_cases h1 : z.1 = 1
      · have HT := Lib.hid (cnt_more hz h1)
        have hd : (z.1 == 1) = true := by simpa using h1
        clear hz hbl hsz
        generalize cnt (L.take k) = c at *
        go_wp2
        go_roundw
        case rel => exact ⟨k + 1, by omega, by go_num, by rw [HT.out]; go_num, hb2.out _⟩
        case measure => simp [intOf]; omega
      · have HT := Lib.hid (cnt_same hz h1)
        have hd : (z.1 == 1) = false := by simpa using h1
        clear hz hbl hsz
        generalize cnt (L.take k) = c at *
        go_wp2
        go_roundw
        case rel => exact ⟨k + 1, by omega, by go_num, by rw [HT.out], hb2.out _⟩
        case measure => simp [intOf]; omega
    · obtain rfl : n = k := by omega
      have HT := Lib.hid (show cnt (L.take n) = cnt L by rw [List.take_of_length_le (by rw [HN.out]; exact Nat.le_refl _)])
      go_wp2
      go_ret
      exact ⟨ret_nat HT.out.symm, hbl⟩

theorem clone_any (A : Option Addr) (n cap : Nat) (L : List Z) (w : World) (hm : n ≤ 1000) (hn : L.length = n) (h0 : 0 < n) (hr : Rd w w.heap.size A (zc L)) :
    Calls Try.prog 40 #[.slice A n cap] w fun e w' => ∃ g c, e = .returned (.slice (some ⟨g, 0, none⟩) n c) ∧ w'.ownsRow w.heap.size 66 2 (.slice (some ⟨g, 0, none⟩) n c) n (zc L) ∧ Below w.heap.size w w' := by
  have qN := isnil_zone
  obtain ⟨ad, rfl, _, _⟩ := hr (zc_ne (by omega))
  have HL := Lib.hid (show (zc L).length = n * 2 by rw [zc_length, hn])
  clear hn
  go_enter Try.func40, Try.ntmps40
  go_wp2_with (at_builtin; refine wpList_append_copy _ rfl _ _ _ rfl 66 _ 2 16 elemZ rfl (some ad) n cap rfl (zc L) HL.out hr (fun _ => zc_one) (by simp only [maxLen]; omega) (by omega) ?_; intro A2 c2 w2 hown hb2)
  obtain ⟨g, rfl, _, _⟩ := own_at hown h0
  go_ret
  exact ⟨g, c2, rfl, hown, hb2⟩
end Go.Proofs.Ythgjlofebicpiaa

/-
  Package zone: zones with another one in a place; are two lists of zones one; is there such a sector.
-/
namespace Go.Proofs.Ythgjlofebicpiaa
open Go.RowKit Geom Zone
set_option linter.unusedVariables false

theorem own_base {w : World} {base base' : Nat} {e : TypeId} {size n : Nat} {v : Value} {xs : List Value} (h : w.ownsRow base e size v n xs) (hb : base' ≤ base) : w.ownsRow base' e size v n xs := by
  refine ⟨h.1, ?_⟩
  rcases h.2 with h2 | ⟨g, cap, cur, h1, h2, h3⟩
  · exact .inl h2
  · exact .inr ⟨g, cap, cur, h1, Nat.le_trans hb h2, h3⟩
set_option maxRecDepth 100000 in
/-- a zone is stored in a row of the call's own -/
theorem wpList_store_zone {P : Program} (w : World) {ops : Array Oper} {rest : List Oper} {o : Oper} {a : Act} {Q : Exit → Act → World → Prop} (hgd : o.guard = none) (ty : TypeId) (x y : Operand) (ho : o.op = .store ty x y)
    (base g n c k : Nat) (e : TypeId) (L : List Z) (z : Z) (hown : w.ownsRow base e 2 (.slice (some ⟨g, 0, none⟩) n c) n (zc L)) (hk : k < n)
    (hx : a.eval x = .pointer (some ⟨g, k * 2, none⟩)) (hy : a.eval y = .agg #[.int .i64 z.1, .int .i64 z.2]) (hi : (P.info? ty).map (·.size) = some 2)
    (h : ∀ w', w'.ownsRow base e 2 (.slice (some ⟨g, 0, none⟩) n c) n (zc (L.set k z)) → w.grownBy w' (some g) → wpList P ops Q rest (a.put o.dst undef) w') : wpList P ops Q (o :: rest) a w := by
  have hl : (zc L).length = n * 2 := hown.1
  refine wpList_store_mid hgd ty x y ho g (k * 2) #[.int .i64 z.1, .int .i64 z.2] hx hy ?_ hi (by simp [Value.oneCell']) ?_
  · intro j hj
    have hj2 : j < 2 := hj
    refine ⟨?_, hown.frozenAt _⟩
    rw [hown.cellAt (k * 2 + j) (by omega)]
    simp only [List.getElem?_eq_getElem (show k * 2 + j < (zc L).length by omega)]
    rfl
  · obtain ⟨h1, g1⟩ := hown.stored (k * 2) (.int .i64 z.1)
    obtain ⟨h2, g2⟩ := h1.stored (k * 2 + 1) (.int .i64 z.2)
    rw [← zc_set] at h2
    exact h _ h2 (g1.trans g2)

set_option maxRecDepth 100000 in
set_option maxHeartbeats 1000000 in
theorem inside_any (conv soft seq size opn zone off : Int) (w : World) (H : Some conv seq size) :
    Calls Try.prog 66 #[.agg #[.int .i64 conv, .int .i64 soft, .int .i64 seq, .int .i64 size, .int .i64 opn], .agg #[.int .i64 zone, .int .i64 off]] w fun e w' => e = .returned (.bool (inB conv soft seq size zone off)) ∧ Below w.heap.size w w' := by
  have HS := Lib.hid fun w => sectors_any conv soft seq size opn zone w H
  have h0 := Two.new w conv soft seq size opn zone off 23 68
  have H0 := Lib.hid h0.drew
  clear h0
  by_cases h1 : 0 ≤ off
  · have HD := Lib.hid (show inB conv soft seq size zone off = decide (off < sectors conv soft seq size zone) by unfold inB; rw [Bool.eq_iff_iff]; simp [h1])
    generalize sectors conv soft seq size zone = ss at *
    go_enter Try.func66, Try.ntmps66
    go_wp2
    refine wp_region_class (fun w' => Two w w' conv soft seq size opn zone off) (by kernel_rfl) (by kernel_rfl) H0.out ?_
    intro X hX f hf hg
    have c0 := fun x => (hf x).1
    have c1 := fun x => (hf x).2.1
    have c2 := fun x => (hf x).2.2.1
    have c3 := fun x => (hf x).2.2.2.1
    have c4 := fun x => (hf x).2.2.2.2.1
    have d0 := fun x => (hf x).2.2.2.2.2.1
    have d1 := fun x => (hf x).2.2.2.2.2.2.1
    have Hf := Lib.hid hf
    have Hg := Lib.hid hg
    clear hf hg H0
    repeat (go_big_quiet_step (exact calls_class (HS.out _) (fun _ hb => Hg.out _ ((Hf.out _).below hb))))
    refine wpQuiet_nil ?_
    rintro _ ⟨x, rfl⟩
    have hbb := (Hf.out x).2.2.2.2.2.2.2.2
    go_wp2
    go_ret
    exact ⟨ret_bool HD.out, hbb⟩
  · have hd : decide (0 ≤ off) = false := decide_eq_false h1
    have HD := Lib.hid (show inB conv soft seq size zone off = false by unfold inB; simp; omega)
    go_enter Try.func66, Try.ntmps66
    go_wp2
    refine wp_region_class (fun w' => Two w w' conv soft seq size opn zone off) (by kernel_rfl) (by kernel_rfl) H0.out ?_
    intro X hX f hf hg
    have c0 := fun x => (hf x).1
    have c1 := fun x => (hf x).2.1
    have c2 := fun x => (hf x).2.2.1
    have c3 := fun x => (hf x).2.2.2.1
    have c4 := fun x => (hf x).2.2.2.2.1
    have d0 := fun x => (hf x).2.2.2.2.2.1
    have d1 := fun x => (hf x).2.2.2.2.2.2.1
    have Hf := Lib.hid hf
    have Hg := Lib.hid hg
    clear hf hg H0
    repeat (go_big_quiet_step (fail))
    refine wpQuiet_nil ?_
    rintro _ ⟨x, rfl⟩
    have hbb := (Hf.out x).2.2.2.2.2.2.2.2
    go_wp2
    go_ret
    exact ⟨ret_bool HD.out, hbb⟩
end Go.Proofs.Ythgjlofebicpiaa

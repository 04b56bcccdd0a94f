/-
  ScY
-/
import Derived.Test.YthgjlofebicpiaaMg43
import Derived.Test.YthgjlofebicpiaaMg47
/-
  The law Alls of layer 14.
-/
namespace Go.Proofs.Ythgjlofebicpiaa
open Go.RowKit Geom Zone Dev Word Rec Scan
set_option linter.unusedVariables false

theorem rall_on {conv soft seq size opn : Int} {n k : Nat} {D : Dv} (ep sq : Int) {w : World} {d : Nat} {T : Nat → Prop} (h : DUp k D) (hm : Meas conv soft seq size opn n D) (hT : ∀ k, w.heap.size ≤ k → T k) (hI : DevIs T w d D) :
    Calls Try.prog 12 #[dp d, gvS conv soft seq size opn, .int .i64 ep, .int .i64 sq] w fun e w' =>
      ∃ V L, e = .returned V ∧ Tells (foundD D ep sq) L ∧ w'.ownsRow w.heap.size 56 38 V L.length (fls L) ∧ Below w.heap.size w w' := by
  obtain ⟨rfl, rfl, rfl, rfl, rfl, _⟩ := hm
  exact rall_any ep sq h.ok.ok h.od h.up hT hI
theorem down_on {conv soft seq size opn : Int} {n : Nat} {D : Dv} (ep sq : Int) {w : World} {d : Nat} {T : Nat → Prop} (hd : D.down = true) (hm : Meas conv soft seq size opn n D) (hI : DevIs T w d D) :
    Calls Try.prog 10 #[dp d, gvS conv soft seq size opn, .int .i64 ep, .int .i64 sq] w fun e w' => e = .returned (.tuple #[.slice none 0 0, .int .i64 2]) ∧ Below w.heap.size w w' := by
  obtain ⟨rfl, rfl, rfl, rfl, rfl, _⟩ := hm
  exact all_down ep sq hd hI
theorem ill_on {w W : World} {X : List Nat} {d : Nat} {D : Dv} (h : DvSt w W X d D) : Calls Try.prog 13 #[dp d] W fun x w' => x = .returned (.int .i64 D.ill) ∧ W = w' := by
  obtain ⟨zv, lb, cv, nb, hb⟩ := h.blk
  exact illegal_any hb
set_option maxRecDepth 100000 in
set_option maxHeartbeats 8000000 in
theorem sclaw_alls (conv soft seq size opn : Int) (A : Option Addr) (len cap : Nat) (l : List St) (ep sq : Int) (w : World) (h64 : W64 conv ∧ W64 soft ∧ W64 seq ∧ W64 size ∧ W64 opn) (hlm : len ≤ maxLen) (hl : l.length = len) (hin : ∀ x ∈ l, StIn x) (hr : Rd w w.heap.size A (stls l)) :
    Calls Try.prog 3 #[gvS conv soft seq size opn, .slice A len cap, .int .i64 ep, .int .i64 sq] w fun e w' => e = .returned (.bool true) ∧ Below w.heap.size w w' := by
  have QW := Lib.hid fun w' => awake_any w'
  have QL := Lib.hid fun w' => sclittle_any conv soft seq size opn w' h64
  have HN := Lib.hid (And.intro hl (And.intro hin hr))
  have hlm' := hlm
  unfold maxLen at hlm'
  clear hl hin hr h64
  go_enter Try.func3, Try.ntmps3
  go_wp2_with (first
    | ((with_reducible refine wpList_box_box _ (o := ⟨some 4, .box _ _, _, _, _, _⟩) rfl _ _ rfl (gcS conv soft seq size opn) rfl ?_); go_loud (intro w1 x0 hB0 hs0; have HB := Lib.hid (show Box w1 w.heap.size 23 (gcS conv soft seq size opn) ∧ Below w.heap.size w w1 from ⟨x0, hB0⟩); clear x0 hB0 hs0))
    | fail)
  refine (QW.out _).mono ?_
  rintro e wa ⟨rfl, hba⟩
  replace HB := Lib.hid (show Box wa w.heap.size 23 (gcS conv soft seq size opn) ∧ Below w.heap.size w wa from ⟨HB.out.1.on hba, bthen HB.out.2 hba⟩)
  clear hba
  have c0 : wa.cell? ⟨w.heap.size, 0, none⟩ = some (.int .i64 conv) := HB.out.1.cell 0
  have c1 : wa.cell? ⟨w.heap.size, 1, none⟩ = some (.int .i64 soft) := HB.out.1.cell 1
  have c2 : wa.cell? ⟨w.heap.size, 2, none⟩ = some (.int .i64 seq) := HB.out.1.cell 2
  have c3 : wa.cell? ⟨w.heap.size, 3, none⟩ = some (.int .i64 size) := HB.out.1.cell 3
  have c4 : wa.cell? ⟨w.heap.size, 4, none⟩ = some (.int .i64 opn) := HB.out.1.cell 4
  go_wp2_with fail
  refine (QL.out _).mono ?_
  rintro e wb ⟨rfl, hbb⟩
  replace HB := Lib.hid (show Box wb w.heap.size 23 (gcS conv soft seq size opn) ∧ Below w.heap.size w wb from ⟨HB.out.1.on hbb, bthen HB.out.2 hbb⟩)
  clear hbb c0 c1 c2 c3 c4
  cases hli : littleS conv soft seq size opn with
  | false =>
    go_wp2_with fail
    refine (QW.out _).mono ?_
    rintro e w9 ⟨rfl, hb9⟩
    have H9 := Lib.hid (bthen HB.out.2 hb9)
    clear hb9
    go_wp2
    go_ret
    exact ⟨rfl, H9.out⟩
  | true =>
    have HLi := Lib.hid (littleS_yes hli)
    clear hli QL
    by_cases q1 : (len : Int) ≤ 60
    · have HNn : Hid ((((conv + seq).toNat : Nat) : Int) = conv + seq) := Lib.hid (by have h1 := HLi.out.1.1; have h2 := HLi.out.1.2.1; omega)
      have hl2 : len ≤ 200 := by omega
      have c0 : wb.cell? ⟨w.heap.size, 0, none⟩ = some (.int .i64 conv) := HB.out.1.cell 0
      have c1 : wb.cell? ⟨w.heap.size, 1, none⟩ = some (.int .i64 soft) := HB.out.1.cell 1
      have c2 : wb.cell? ⟨w.heap.size, 2, none⟩ = some (.int .i64 seq) := HB.out.1.cell 2
      have c3 : wb.cell? ⟨w.heap.size, 3, none⟩ = some (.int .i64 size) := HB.out.1.cell 3
      have c4 : wb.cell? ⟨w.heap.size, 4, none⟩ = some (.int .i64 opn) := HB.out.1.cell 4
      go_wp2_with fail
      refine (rlayd_any conv soft seq size opn (conv + seq).toNat len cap A l wb HLi.out.1 HNn.out HN.out.1 hl2 HN.out.2.1 ((HN.out.2.2.below HB.out.2).more HB.out.2.size)).mono ?_
      rintro e w3 ⟨d, rfl, hI, hb3⟩
      have hU := lay_up l (up_new HLi.out.1 HNn.out).1 HN.out.2.1 (by have := HN.out.1; omega)
      have hM := lay_meas l (up_new HLi.out.1 HNn.out).2
      generalize layD (newD conv soft seq size opn (conv + seq).toNat) l = D at hU hM hI
      have HD := Lib.hid (And.intro hU hM)
      have HS3 : Hid (DvSt w w3 [w.heap.size] d D ∧ Box w3 w.heap.size 23 (gcS conv soft seq size opn)) := Lib.hid ⟨⟨hI.shrink fun k _ h => ⟨Nat.le_trans HB.out.2.size h, fun hx => by rw [List.mem_singleton.1 hx] at h; have := HB.out.1.lt; omega⟩, bthen HB.out.2 hb3, fun b hb => by rw [List.mem_singleton.1 hb]; have := HB.out.1.lt; have := hb3.size; omega⟩, HB.out.1.on hb3⟩
      clear hU hM hI hb3 HB c0 c1 c2 c3 c4
      have c0 : w3.cell? ⟨w.heap.size, 0, none⟩ = some (.int .i64 conv) := HS3.out.2.cell 0
      have c1 : w3.cell? ⟨w.heap.size, 1, none⟩ = some (.int .i64 soft) := HS3.out.2.cell 1
      have c2 : w3.cell? ⟨w.heap.size, 2, none⟩ = some (.int .i64 seq) := HS3.out.2.cell 2
      have c3 : w3.cell? ⟨w.heap.size, 3, none⟩ = some (.int .i64 size) := HS3.out.2.cell 3
      have c4 : w3.cell? ⟨w.heap.size, 4, none⟩ = some (.int .i64 opn) := HS3.out.2.cell 4
      go_wp2_with fail
      refine (all_on ep sq HD.out.1 HD.out.2 HS3.out.1.hT HS3.out.1.1).mono ?_
      rintro e w4 ⟨V4, L4, rfl, hT4, hown4, hb4⟩
      obtain ⟨A4, k4, rfl⟩ := own_slice hown4
      have HS4 : Hid (DvSt w w4 [w.heap.size] d D ∧ Box w4 w.heap.size 23 (gcS conv soft seq size opn)) := Lib.hid ⟨HS3.out.1.on hb4, HS3.out.2.on hb4⟩
      have HO4 := Lib.hid (And.intro (Rd.own hown4) hT4)
      clear hown4 hT4 hb4 HS3 c0 c1 c2 c3 c4
      have c0 : w4.cell? ⟨w.heap.size, 0, none⟩ = some (.int .i64 conv) := HS4.out.2.cell 0
      have c1 : w4.cell? ⟨w.heap.size, 1, none⟩ = some (.int .i64 soft) := HS4.out.2.cell 1
      have c2 : w4.cell? ⟨w.heap.size, 2, none⟩ = some (.int .i64 seq) := HS4.out.2.cell 2
      have c3 : w4.cell? ⟨w.heap.size, 3, none⟩ = some (.int .i64 size) := HS4.out.2.cell 3
      have c4 : w4.cell? ⟨w.heap.size, 4, none⟩ = some (.int .i64 opn) := HS4.out.2.cell 4
      go_wp2_with fail
      refine (rall_on ep sq HD.out.1 HD.out.2 HS4.out.1.hT HS4.out.1.1).mono ?_
      rintro e w5 ⟨V5, L5, rfl, hT5, hown5, hb5⟩
      obtain rfl : L5 = L4 := hT5.one HO4.out.2
      obtain ⟨A5, k5, rfl⟩ := own_slice hown5
      have HS5 : Hid (DvSt w w5 [w.heap.size] d D ∧ Box w5 w.heap.size 23 (gcS conv soft seq size opn)) := Lib.hid ⟨HS4.out.1.on hb5, HS4.out.2.on hb5⟩
      have HLn : Hid (L5.length ≤ 20000) := Lib.hid (by rw [hT5.length]; exact pls_count HD.out.1.ok.ok (Nat.le_refl _))
      have HIn : Hid (∀ x ∈ L5, FIn x) := Lib.hid fun x hx => found_in HD.out.1.ok.ok HD.out.1.od x (hT5.1.mem_iff.1 hx)
      have HSm := Lib.hid (fsame_any A4 A5 L5.length k4 L5.length k5 w5 (by have := HLn.out; omega) (by have := HLn.out; omega) L5 L5 rfl rfl HIn.out HIn.out w5.heap.size ((HO4.out.1.below hb5).more hb5.size) (Rd.own hown5))
      clear hown5 hT5 hb5 HS4 HO4 c0 c1 c2 c3 c4
      go_wp2_with fail
      refine HSm.out.mono ?_
      rintro e w6 ⟨⟨b, rfl, hb⟩, q, rfl⟩
      obtain rfl : b = true := hb.2 trivial
      have HS6 : Hid (DvSt w (w5.drewN q) [w.heap.size] d D ∧ Box (w5.drewN q) w.heap.size 23 (gcS conv soft seq size opn)) := Lib.hid ⟨HS5.out.1.on (below_draws (Below.refl _ _) q), HS5.out.2⟩
      clear hb HSm HS5
      generalize w5.drewN q = w6 at *
      go_wp2_with fail
      refine (ill_on HS6.out.1).mono ?_
      rintro e w6' ⟨rfl, rfl⟩
      go_wp2_with fail
      refine (arm_any (T := TX w.heap.size [w.heap.size]) 0 HS6.out.1.1).mono ?_
      rintro e w7 ⟨rfl, hI7, hF7⟩
      have hdn : (armD D 0).down = true := by
        unfold armD
        rw [if_neg (by simp [HD.out.1.up])]
        rfl
      have hmm : Meas conv soft seq size opn (conv + seq).toNat (armD D 0) := by
        unfold armD
        split <;> exact HD.out.2
      have hil : (armD D 0).ill = D.ill := by
        unfold armD
        split <;> rfl
      have HS7 : Hid (DvSt w w7 [w.heap.size] d (armD D 0) ∧ Box w7 w.heap.size 23 (gcS conv soft seq size opn)) := Lib.hid ⟨HS6.out.1.next hI7 hF7, hF7.box HS6.out.2 (by simp)⟩
      have HDn := Lib.hid (And.intro hdn hmm)
      generalize armD D 0 = D7 at *
      generalize D.ill = ill at *
      clear hI7 hF7 HS6 hdn hmm
      have c0 : w7.cell? ⟨w.heap.size, 0, none⟩ = some (.int .i64 conv) := HS7.out.2.cell 0
      have c1 : w7.cell? ⟨w.heap.size, 1, none⟩ = some (.int .i64 soft) := HS7.out.2.cell 1
      have c2 : w7.cell? ⟨w.heap.size, 2, none⟩ = some (.int .i64 seq) := HS7.out.2.cell 2
      have c3 : w7.cell? ⟨w.heap.size, 3, none⟩ = some (.int .i64 size) := HS7.out.2.cell 3
      have c4 : w7.cell? ⟨w.heap.size, 4, none⟩ = some (.int .i64 opn) := HS7.out.2.cell 4
      go_wp2_with fail
      refine (down_on ep sq HDn.out.1 HDn.out.2 HS7.out.1.1).mono ?_
      rintro e w8 ⟨rfl, hb8⟩
      have HS8 := Lib.hid (HS7.out.1.on hb8)
      have HIl := Lib.hid (ill_on HS8.out)
      rw [hil] at HIl
      clear hb8 HS7 c0 c1 c2 c3 c4 hil
      go_wp2_with fail
      refine HIl.out.mono ?_
      rintro e w8' ⟨rfl, rfl⟩
      have HB8 := Lib.hid HS8.out.2.1
      clear HS8 HIl
      go_wp2
      go_ret
      exact ⟨rfl, HB8.out⟩
    · go_wp2_with fail
      refine (QW.out _).mono ?_
      rintro e w9 ⟨rfl, hb9⟩
      have H9 := Lib.hid (bthen HB.out.2 hb9)
      clear hb9
      go_wp2
      go_ret
      exact ⟨rfl, H9.out⟩
end Go.Proofs.Ythgjlofebicpiaa

/-
  ZoneL
-/
import Derived.Test.YthgjlofebicpiaaMg26
/-
  Package zone: what each command does to the zones.
-/
namespace Go.Proofs.Ythgjlofebicpiaa
open Go.RowKit Geom Zone
set_option linter.unusedVariables false

/-- a function with a body is entered -/
theorem goes_in {P : Program} {f : FuncId} {fn : Func} {c : Code} (hf : P.funcs[f]? = some fn) (hname : (fn.name == "runtime.NumGoroutine") = false) (hb : fn.body = some c) (args : Array Value) (w : World) : (callFunc f args).run P w = .ok (.enter f args) w := by
  have h1 : fn.name ≠ "runtime.NumGoroutine" := by simpa using hname
  simp [callFunc, hf, h1, hb, mark]

section
variable (conv soft seq size opn zone off : Int) (A : Option Addr) (n cap : Nat) (L : List Z) (w : World) (hm : n ≤ 1000) (hn : L.length = n) (H : Some conv seq size) (hns : (n : Int) = conv + seq) (hr : Rd w w.heap.size A (zc L))

theorem Two.one {w w' : World} {conv soft seq size opn zone off : Int} (h : Two w w' conv soft seq size opn zone off) : One w w' conv soft seq size opn :=
  ⟨⟨h.1, h.2.1, h.2.2.1, h.2.2.2.1, h.2.2.2.2.1, by have := h.2.2.2.2.2.2.2.1; omega⟩, h.2.2.2.2.2.2.2.2⟩
theorem Two.at {w w' : World} {conv soft seq size opn zone off : Int} (h : Two w w' conv soft seq size opn zone off) : LiesAt w' (w.heap.size + 1) zone off :=
  ⟨h.2.2.2.2.2.1, h.2.2.2.2.2.2.1, h.2.2.2.2.2.2.2.1⟩

include hm hn H hns hr in
set_option maxRecDepth 100000 in
set_option maxHeartbeats 1000000 in
theorem zwrite_any (hsoft : soft ≤ 65536) :
    Calls Try.prog 43 #[.agg #[.int .i64 conv, .int .i64 soft, .int .i64 seq, .int .i64 size, .int .i64 opn], .slice A n cap, .agg #[.int .i64 zone, .int .i64 off]] w fun e w' =>
      ∃ g c, e = .returned (.tuple #[.slice (some ⟨g, 0, none⟩) n c, .int .i64 (writeL conv soft seq size opn L zone off).2]) ∧ w'.ownsRow w.heap.size 66 2 (.slice (some ⟨g, 0, none⟩) n c) n (zc (writeL conv soft seq size opn L zone off).1) ∧ Below w.heap.size w w' := by
  have H0 := Lib.hid (Two.new w conv soft seq size opn zone off 23 68)
  have HI := Lib.hid fun w => inside_any conv soft seq size opn zone off w H
  by_cases hi : inB conv soft seq size zone off = true
  · rw [hi] at HI
    rw [show writeL conv soft seq size opn L zone off = turnL (fun b z => writeZ off size b z) conv seq opn L zone from if_pos hi]
    have HT := Lib.hid fun w' (h : Two w w' conv soft seq size opn zone off) => turned_any 68 #[.pointer (some ⟨w.heap.size + 1, 0, none⟩), .pointer (some ⟨w.heap.size, 0, none⟩)] (fun b z => writeZ off size b z) conv soft seq size opn zone A n cap L w' hm hn H hns (hr.one h.one) (goes_in Try.func68 (by kernel_rfl) rfl)
      (fun s p b w2 hb => writeF_any s p conv soft seq size opn zone off (w.heap.size + 1) w.heap.size b w2 (in_bd hi hsoft H.2.2.2.2).1 (in_bd hi hsoft H.2.2.2.2).2 (h.below hb).at (h.below hb).one.1)
    clear hm hn H hns hr hi hsoft
    go_enter Try.func43, Try.ntmps43
    go_wp2_with fail
    generalize World.alloc _ _ = w0 at H0 ⊢
    refine (HI.out _).mono ?_
    rintro e w1 ⟨rfl, hb⟩
    have H1 := Lib.hid (Two.below H0.out hb)
    obtain ⟨c0, c1, c2, c3, c4, d0, d1, hlt, hbb⟩ := id H1.out
    clear H0 hb
    go_wp2_with fail
    refine (HT.out _ H1.out).mono ?_
    rintro e w2 ⟨g, c, rfl, hown, hb⟩
    have Hown := Lib.hid (own_base hown H1.out.one.2.size)
    have Hb := Lib.hid (bthen H1.out.one.2 hb)
    clear H1 HT hown hb c0 c1 c2 c3 c4 d0 d1 hlt hbb
    go_wp2
    go_ret2
    exact ⟨g, c, rfl, Hown.out, Hb.out⟩
  · have hi : inB conv soft seq size zone off = false := by simpa using hi
    rw [hi] at HI
    rw [show writeL conv soft seq size opn L zone off = (L, 6) from if_neg (by simp [hi])]
    have HK := Lib.hid fun w' (h : Two w w' conv soft seq size opn zone off) => clone_any A n cap L w' hm hn (by have := H.1; have := H.2.1; omega) (hr.one h.one)
    clear hm hn H hns hr hi hsoft
    go_enter Try.func43, Try.ntmps43
    go_wp2_with fail
    generalize World.alloc _ _ = w0 at H0 ⊢
    refine (HI.out _).mono ?_
    rintro e w1 ⟨rfl, hb⟩
    have H1 := Lib.hid (Two.below H0.out hb)
    clear H0 hb
    go_wp2_with fail
    refine (HK.out _ H1.out).mono ?_
    rintro e w2 ⟨g, c, rfl, hown, hb⟩
    have Hown := Lib.hid (own_base hown H1.out.one.2.size)
    have Hb := Lib.hid (bthen H1.out.one.2 hb)
    clear H1 HK hown hb
    go_wp2
    go_ret2
    exact ⟨g, c, rfl, Hown.out, Hb.out⟩

include hn H hns hr in
set_option maxRecDepth 100000 in
set_option maxHeartbeats 2000000 in
theorem zread_any :
    Calls Try.prog 55 #[.agg #[.int .i64 conv, .int .i64 soft, .int .i64 seq, .int .i64 size, .int .i64 opn], .slice A n cap, .agg #[.int .i64 zone, .int .i64 off]] w fun e w' =>
      e = .returned (.int .i64 (readE conv soft seq size L zone off)) ∧ Below w.heap.size w w' := by
  have H0 := Lib.hid (Two.new w conv soft seq size opn zone off 23 68)
  have HI := Lib.hid fun w => inside_any conv soft seq size opn zone off w H
  have HH := Lib.hid fun w => zhas_any conv soft seq size opn zone A n cap w H hns
  by_cases hh : hasB conv seq zone = true
  rotate_left
  · have HD := Lib.hid (show readE conv soft seq size L zone off = 6 from if_neg (fun h => hh (in_has h)))
    have hh : hasB conv seq zone = false := by simpa using hh
    rw [hh] at HH
    clear hn H hns hr hh
    go_enter Try.func55, Try.ntmps55
    go_wp2_with fail
    generalize World.alloc _ _ = w0 at H0 ⊢
    refine (HH.out _).mono ?_
    rintro e w1 ⟨rfl, hb⟩
    have H1 := Lib.hid (Two.below H0.out hb)
    clear H0 hb
    go_wp2
    go_ret
    exact ⟨ret_int HD.out, H1.out.one.2⟩
  obtain ⟨hz0, hz1⟩ := has_in hh
  rw [hh] at HH
  by_cases hi : inB conv soft seq size zone off = true
  rotate_left
  · have HD := Lib.hid (show readE conv soft seq size L zone off = 6 from if_neg hi)
    have hi : inB conv soft seq size zone off = false := by simpa using hi
    rw [hi] at HI
    clear hn H hns hr hh hi
    go_enter Try.func55, Try.ntmps55
    go_wp2_with fail
    generalize World.alloc _ _ = w0 at H0 ⊢
    refine (HH.out _).mono ?_
    rintro e w1 ⟨rfl, hb⟩
    have H1 := Lib.hid (Two.below H0.out hb)
    obtain ⟨c0, c1, c2, c3, c4, d0, d1, hlt, hbb⟩ := id H1.out
    clear H0 hb
    go_wp2_with fail
    refine (HI.out _).mono ?_
    rintro e w2 ⟨rfl, hb⟩
    have H2 := Lib.hid (Two.below H1.out hb)
    clear H1 hb c0 c1 c2 c3 c4 d0 d1 hlt hbb
    go_wp2
    go_ret
    exact ⟨ret_int HD.out, H2.out.one.2⟩
  rw [hi] at HI
  obtain ⟨k, rfl⟩ : ∃ k : Nat, zone = (k : Int) := ⟨zone.toNat, by omega⟩
  have hk : k < n := by omega
  have hkI : (k : Int) < (n : Int) := by omega
  have hzk := getD_of (L := L) (k := k) (d := (0, 0)) (by omega)
  have hza : zat L (k : Int) = L.getD k (0, 0) := by simp [zat]
  have HR := Lib.hid fun w' (h : Two w w' conv soft seq size opn k off) => (hr.one h.one).zone hzk
  have HD := Lib.hid (show readE conv soft seq size L (k : Int) off = if (zat L (k : Int)).1 ≠ 4 ∧ (zat L (k : Int)).2 ≤ off then 4 else 0 from if_pos hi)
  rw [hza] at HD
  generalize L.getD k (0, 0) = z at *
  have Hns := Lib.hid hns
  clear hn H hns hr hh hi hz0 hz1 hzk hza
  by_cases h4 : z.1 = 4
  · have hd : (z.1 != 4) = false := by simpa using h4
    rw [if_neg (fun h => h.1 h4)] at HD
    go_enter Try.func55, Try.ntmps55
    go_wp2_with fail
    generalize World.alloc _ _ = w0 at H0 ⊢
    refine (HH.out _).mono ?_
    rintro e w1 ⟨rfl, hb⟩
    have H1 := Lib.hid (Two.below H0.out hb)
    obtain ⟨c0, c1, c2, c3, c4, d0, d1, hlt, hbb⟩ := id H1.out
    clear H0 hb
    go_wp2_with fail
    refine (HI.out _).mono ?_
    rintro e w2 ⟨rfl, hb⟩
    have H2 := Lib.hid (Two.below H1.out hb)
    clear H1 hb c0 c1 c2 c3 c4 d0 d1 hlt hbb
    obtain ⟨ad, rfl, _, e0, e1⟩ := HR.out _ H2.out
    obtain ⟨c0, c1, c2, c3, c4, d0, d1, hlt, hbb⟩ := id H2.out
    have HB := Lib.hid fun o => hbb.alloc hbb.size o
    go_wp2
    go_ret
    exact ⟨ret_int HD.out, HB.out _⟩
  have hd : (z.1 != 4) = true := by simpa using h4
  by_cases hp : z.2 ≤ off
  · rw [if_pos ⟨h4, hp⟩] at HD
    go_enter Try.func55, Try.ntmps55
    go_wp2_with fail
    generalize World.alloc _ _ = w0 at H0 ⊢
    refine (HH.out _).mono ?_
    rintro e w1 ⟨rfl, hb⟩
    have H1 := Lib.hid (Two.below H0.out hb)
    obtain ⟨c0, c1, c2, c3, c4, d0, d1, hlt, hbb⟩ := id H1.out
    clear H0 hb
    go_wp2_with fail
    refine (HI.out _).mono ?_
    rintro e w2 ⟨rfl, hb⟩
    have H2 := Lib.hid (Two.below H1.out hb)
    clear H1 hb c0 c1 c2 c3 c4 d0 d1 hlt hbb
    obtain ⟨ad, rfl, _, e0, e1⟩ := HR.out _ H2.out
    obtain ⟨c0, c1, c2, c3, c4, d0, d1, hlt, hbb⟩ := id H2.out
    have HB := Lib.hid fun o => hbb.alloc hbb.size o
    go_wp2
    go_ret
    exact ⟨ret_int HD.out, HB.out _⟩
  · have hd2 : decide (z.2 ≤ off) = false := decide_eq_false hp
    rw [if_neg (fun h => hp h.2)] at HD
    go_enter Try.func55, Try.ntmps55
    go_wp2_with fail
    generalize World.alloc _ _ = w0 at H0 ⊢
    refine (HH.out _).mono ?_
    rintro e w1 ⟨rfl, hb⟩
    have H1 := Lib.hid (Two.below H0.out hb)
    obtain ⟨c0, c1, c2, c3, c4, d0, d1, hlt, hbb⟩ := id H1.out
    clear H0 hb
    go_wp2_with fail
    refine (HI.out _).mono ?_
    rintro e w2 ⟨rfl, hb⟩
    have H2 := Lib.hid (Two.below H1.out hb)
    clear H1 hb c0 c1 c2 c3 c4 d0 d1 hlt hbb
    obtain ⟨ad, rfl, _, e0, e1⟩ := HR.out _ H2.out
    obtain ⟨c0, c1, c2, c3, c4, d0, d1, hlt, hbb⟩ := id H2.out
    have HB := Lib.hid fun o => hbb.alloc hbb.size o
    go_wp2
    go_ret
    exact ⟨ret_int HD.out, HB.out _⟩

set_option maxRecDepth 100000 in
/-- the whole of it without power -/
theorem zpower_any (hm : n ≤ 1000) (hn : L.length = n) (h0 : 0 < n) (hr : Rd w w.heap.size A (zc L)) :
    Calls Try.prog 36 #[.slice A n cap] w fun e w' =>
      ∃ g c, e = .returned (.slice (some ⟨g, 0, none⟩) n c) ∧ w'.ownsRow w.heap.size 66 2 (.slice (some ⟨g, 0, none⟩) n c) n (zc (L.map pow)) ∧ Below w.heap.size w w' := by
  have HK := Lib.hid (clone_any A n cap L w hm hn h0 hr)
  have HN := Lib.hid hn
  clear hn hr
  go_enter Try.func36, Try.ntmps36
  go_wp2_with fail
  refine HK.out.mono ?_
  rintro e w1 ⟨g, c, rfl, hown, hb⟩
  have Hown := Lib.hid hown
  have Hb := Lib.hid hb
  have hgw : w.heap.size ≤ g := (hown.lt g rfl).1
  clear HK hown hb
  go_wp2_with fail
  go_loopw [10] (fun i wr => ∃ k : Nat, k ≤ n ∧ i = .int .i64 k ∧ wr.ownsRow w.heap.size 66 2 (.slice (some ⟨g, 0, none⟩) n c) n (zc (powK L k)) ∧ Below w.heap.size w wr) (fun i _ => n - (intOf i).toNat)
  case atStart => exact ⟨0, by omega, rfl, by rw [powK_zero]; exact Hown.out, Hb.out⟩
  case round =>
    clear Hown Hb
    obtain ⟨k, hk, rfl, hown, hbl⟩ := hrel
    have hbl := Lib.hid hbl
    by_cases hlt : k < n
    · have hz := getD_of (L := L) (k := k) (d := (0, 0)) (by rw [HN.out]; exact hlt)
      generalize L.getD k (0, 0) = z at hz
      obtain ⟨s, p⟩ := z
      have d0 := hown.cellAt (k * 2) (by omega)
      have d1 := hown.cellAt (k * 2 + 1) (by omega)
      rw [zc_get0 (powK_get hz)] at d0
      rw [zc_get1 (powK_get hz)] at d1
      have Hown := Lib.hid (hown.alloc (.cells #[.int .i64 s, .int .i64 p] 66))
      have Hb := Lib.hid (hbl.out.alloc hbl.out.size (.cells #[.int .i64 s, .int .i64 p] 66))
      have HZ := Lib.hid hz
      clear hown hz
      by_cases h1 : s = 1
      · subst h1
        have HP := Lib.hid (powK_set HZ.out)
        rw [show pow (1, p) = rest (1, p) from if_pos rfl] at HP
        go_wp2_with fail
        generalize World.alloc _ _ = w2 at Hown Hb ⊢
        refine (atRest_any _ _ _).mono ?_
        rintro e w3 ⟨rfl, hb3⟩
        have Hb3 := Lib.hid (hbl.out.trans (Below.refl _ _))
        have hown3 := Lib.hid (own_below Hown.out hb3)
        have Hb4 := Lib.hid (bthen Hb.out hb3)
        clear Hown Hb hb3 d0 d1
        go_wp2_with ((with_reducible refine wpList_store_zone _ (o := ⟨none, .store _ _ _, _, _, _, _⟩) rfl _ _ _ rfl _ g n c k _ (powK L k) (rest (1, p)) hown3.out hlt rfl rfl rfl ?_); intro w5 hown5 hg5; have Hown5 := Lib.hid hown5; have Hg5 := Lib.hid hg5; clear hown5 hg5)
        go_roundw
        case rel => exact ⟨k + 1, by omega, by go_num, by rw [← HP.out]; exact Hown5.out, below_stored Hb4.out Hg5.out Hb4.out.size hgw⟩
        case measure => simp [intOf]; omega
      · have hd : (s == 1) = false := by simpa using h1
        have HP := Lib.hid (powK_keep HZ.out (show pow (s, p) = (s, p) from if_neg h1))
        go_wp2
        go_roundw
        case rel => exact ⟨k + 1, by omega, by go_num, by rw [← HP.out]; exact Hown.out, Hb.out⟩
        case measure => simp [intOf]; omega
    · obtain rfl : n = k := by omega
      rw [powK_all HN.out] at hown
      have Hown := Lib.hid hown
      clear hown
      go_wp2
      go_ret
      exact ⟨g, c, rfl, Hown.out, hbl.out⟩
end
end Go.Proofs.Ythgjlofebicpiaa

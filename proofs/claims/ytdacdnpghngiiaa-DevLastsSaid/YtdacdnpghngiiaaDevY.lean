/-
  Package dev: Clone.
-/
import Derived.Test.YtdacdnpghngiiaaDevX
namespace Go.Proofs.Ytdacdnpghngiiaa
open Go.RowKit Geom Zone Dev
set_option linter.unusedVariables false

theorem row_slice {w : World} {base : Nat} {e : TypeId} {size n : Nat} {v : Value} {xs : List Value} (h : w.ownsRow base e size v n xs) : ∃ A c, v = .slice A n c := by
  rcases h.2 with ⟨rfl, h0⟩ | ⟨g, cap, cur, rfl, _⟩
  · exact ⟨none, 0, by rw [h0]⟩
  · exact ⟨_, _, rfl⟩
theorem DBlk.set6 {w : World} {d : Nat} {conv soft seq size opn : Int} {zv : Value} {lb : Nat} {cv : Value} {nb : Nat} {down : Bool} {armed ill : Int} (h : DBlk w d conv soft seq size opn zv lb cv nb down armed ill) (b : Nat) :
    DBlk (w.setCell ⟨d, 6, none⟩ (.map (some b))) d conv soft seq size opn zv b cv nb down armed ill := (heap_setCell_same _ _ _ _ _ _ h).trans (by simp)
theorem below_set {w w' : World} {B c i : Nat} (h : Below B w w') (hc : B ≤ c) (v : Value) : Below B w (w'.setCell ⟨c, i, none⟩ v) := ⟨h.os, h.tape, h.output, by simpa [World.setCell] using h.size, fun k hk => (heap_setCell_other _ _ _ _ (by show k ≠ c; omega)).trans (h.block k hk)⟩
theorem row_set {w : World} {base c i : Nat} {e : TypeId} {size n : Nat} {v : Value} {xs : List Value} (h : w.ownsRow base e size v n xs) (hb : c < base) (u : Value) : (w.setCell ⟨c, i, none⟩ u).ownsRow base e size v n xs :=
  own_same h fun g hg => heap_setCell_other _ _ _ _ (by have := (h.lt g hg).1; show g ≠ c; omega)
theorem map_set {w : World} {b n c i : Nat} {f : Int × Int → Option Value} (h : MapIs w b n f) (hb : c < b) (u : Value) : MapIs (w.setCell ⟨c, i, none⟩ u) b n f := h.same (heap_setCell_other _ _ _ _ (by show b ≠ c; omega))
theorem size_set (w : World) (a : Addr) (u : Value) : (w.setCell a u).heap.size = w.heap.size := by simp [World.setCell]
set_option maxRecDepth 100000 in
set_option maxHeartbeats 4000000 in
theorem dclone_any (T : Nat → Prop) (d : Nat) (D : Dv) (w : World) (h : DevIs T w d D) (hD : DvOk D) :
    Calls Try.prog 14 #[dp d] w fun e w' => ∃ d2, e = .returned (dp d2) ∧ DevIs (fun k => w.heap.size ≤ k) w' d2 D ∧ Below w.heap.size w w' := by
  obtain ⟨gz, cz, lb, cv, nb, hb, hz, hc, hl, hn, td, tz, tl, tn, tc, hne⟩ := h
  obtain ⟨c0, c1, c2, c3, c4⟩ := hb.geo
  obtain ⟨c5, c6, c7, c8⟩ := hb.mem
  obtain ⟨c9, c10, c11⟩ := hb.num
  obtain ⟨A, ca, rfl⟩ := row_slice hc
  obtain ⟨w1, hw1⟩ : ∃ w1, w1 = w.alloc (.cells #[Value.int IntKind.i64 D.conv, Value.int IntKind.i64 D.soft, Value.int IntKind.i64 D.seq,
                Value.int IntKind.i64 D.size, Value.int IntKind.i64 D.opn,
                Value.slice (some { block := gz, off := 0 }) D.n cz, Value.map (some lb), Value.slice A D.cache.length ca,
                Value.map (some nb), Value.bool D.down, Value.int IntKind.i64 D.armed, Value.int IntKind.i64 D.ill] 70) := ⟨_, rfl⟩
  have B1 : Below w.heap.size w w1 := by rw [hw1]; exact (Below.refl _ _).alloc (Nat.le_refl _) _
  have K1 : DBlk w1 w.heap.size D.conv D.soft D.seq D.size D.opn (.slice (some ⟨gz, 0, none⟩) D.n cz) lb (.slice A D.cache.length ca) nb D.down D.armed D.ill := by rw [hw1]; exact (MapKept.heap_alloc w _).1
  have L5 : w1.cell? ⟨d, 5, none⟩ = some (.slice (some ⟨gz, 0, none⟩) D.n cz) := (hb.same (B1.block _ hb.lt)).mem.1
  have hn0 : 0 < D.n := by have := hD.ok.1; have := hD.ok.2.1; have := hD.ns; omega
  have HZ := Lib.hid (clone_any (some ⟨gz, 0, none⟩) D.n cz D.L w1 hD.nl (by have h1 := hD.fit.1; have h2 := hD.ns; omega) hn0 (Rd.below (Rd.own_any hz _ _ _ rfl) B1 |>.more B1.size))
  have HM := Lib.hid fun w' (h : Below w.heap.size w w') => mcpage_any lb D.use D.last w' (hl.below h)
  have HW := Lib.hid fun w' (h : Below w.heap.size w w') => wclone_any (.slice A D.cache.length ca) D.cache w' hD.cl hD.wok (own_below hc h)
  have HN := Lib.hid fun w' (h : Below w.heap.size w w') => mcint_any nb D.cache.length (newestV D.cache) w' (hn.below h)
  have HS := Lib.hid fun w' (h : Below w.heap.size w w') => (hb.same (h.block _ hb.lt)).mem
  have HB := Lib.hid B1
  have HK := Lib.hid K1
  have H0 := Lib.hid hn0
  clear hD hz hc hl hn hb hne td tz tl tn tc B1 K1 hn0
  go_enter Try.func14, Try.ntmps14
  rw [hw1] at L5
  go_wp2_with fail
  rw [← hw1]
  clear hw1 c0 c1 c2 c3 c4 c5 c6 c7 c8 c9 c10 c11 L5
  refine HZ.out.mono ?_
  rintro x w2 ⟨g, c2, rfl, hown2, hb2⟩
  obtain ⟨w3, hw3⟩ : ∃ w3, w3 = w2.setCell ⟨w.heap.size, 5, none⟩ (.slice (some ⟨g, 0, none⟩) D.n c2) := ⟨_, rfl⟩
  have lt1 : w.heap.size < w1.heap.size := HK.out.lt
  have B3 : Below w.heap.size w w3 := by rw [hw3]; exact below_set (HB.out.trans (hb2.mono (Nat.le_of_lt lt1))) (Nat.le_refl _) _
  have K2 := HK.out.same (hb2.block _ lt1)
  have K3 : DBlk w3 w.heap.size D.conv D.soft D.seq D.size D.opn (.slice (some ⟨g, 0, none⟩) D.n c2) lb (.slice A D.cache.length ca) nb D.down D.armed D.ill := by rw [hw3]; exact K2.set5 _
  have R3 : w3.ownsRow w1.heap.size 45 2 (.slice (some ⟨g, 0, none⟩) D.n c2) D.n (zc D.L) := by rw [hw3]; exact row_set hown2 lt1 _
  have L6 := (HS.out w3 B3).2.1
  have C5 := K2.mem.1
  have F5 := K2.frozen 5
  have H3 := Lib.hid (And.intro B3 (And.intro K3 (And.intro R3 lt1)))
  clear B3 K2 K3 R3 lt1 hown2 hb2 HB HK HZ
  rw [hw3] at L6
  go_wp2_with fail
  rw [← hw3]
  clear hw3 L6 C5 F5
  refine (HM.out w3 H3.out.1).mono ?_
  rintro x w4 ⟨rfl, hm4, hb4⟩
  obtain ⟨w5, hw5⟩ : ∃ w5, w5 = w4.setCell ⟨w.heap.size, 6, none⟩ (.map (some w3.heap.size)) := ⟨_, rfl⟩
  obtain ⟨B3, K3, R3, lt1⟩ := H3.out
  have lt3 : w.heap.size < w3.heap.size := K3.lt
  have B5 : Below w.heap.size w w5 := by rw [hw5]; exact below_set (B3.trans (hb4.mono (Nat.le_of_lt lt3))) (Nat.le_refl _) _
  have K4 := K3.same (hb4.block _ lt3)
  have K5 : DBlk w5 w.heap.size D.conv D.soft D.seq D.size D.opn (.slice (some ⟨g, 0, none⟩) D.n c2) w3.heap.size (.slice A D.cache.length ca) nb D.down D.armed D.ill := by rw [hw5]; exact K4.set6 _
  have R5 : w5.ownsRow w1.heap.size 45 2 (.slice (some ⟨g, 0, none⟩) D.n c2) D.n (zc D.L) := by rw [hw5]; exact row_set (own_below R3 hb4) lt1 _
  have M5 : MapIs w5 w3.heap.size D.use D.last := by rw [hw5]; exact map_set hm4 lt3 _
  have L7 := (HS.out w5 B5).2.2.1
  have C6 := K4.mem.2.1
  have F6 := K4.frozen 6
  have H5 := Lib.hid (And.intro B5 (And.intro K5 (And.intro R5 (And.intro M5 (And.intro lt1 lt3)))))
  clear B3 K3 R3 lt1 H3 lt3 B5 K4 K5 R5 M5 hm4 hb4 HM
  rw [hw5] at L7
  go_wp2_with fail
  rw [← hw5]
  clear hw5 L7 C6 F6
  refine (HW.out w5 H5.out.1).mono ?_
  rintro x w6 ⟨v7, rfl, hr6, hb6⟩
  obtain ⟨A7, c7, rfl⟩ := row_slice hr6
  obtain ⟨w7, hw7⟩ : ∃ w7, w7 = w6.setCell ⟨w.heap.size, 7, none⟩ (.slice A7 D.cache.length c7) := ⟨_, rfl⟩
  obtain ⟨B5, K5, R5, M5, lt1, lt3⟩ := H5.out
  have lt5 : w.heap.size < w5.heap.size := K5.lt
  have B7 : Below w.heap.size w w7 := by rw [hw7]; exact below_set (B5.trans (hb6.mono (Nat.le_of_lt lt5))) (Nat.le_refl _) _
  have K6 := K5.same (hb6.block _ lt5)
  have K7 : DBlk w7 w.heap.size D.conv D.soft D.seq D.size D.opn (.slice (some ⟨g, 0, none⟩) D.n c2) w3.heap.size (.slice A7 D.cache.length c7) nb D.down D.armed D.ill := by rw [hw7]; exact K6.set7 _
  have R7 : w7.ownsRow w1.heap.size 45 2 (.slice (some ⟨g, 0, none⟩) D.n c2) D.n (zc D.L) := by rw [hw7]; exact row_set (own_below R5 hb6) lt1 _
  have M7 : MapIs w7 w3.heap.size D.use D.last := by rw [hw7]; exact map_set (M5.below hb6) lt3 _
  have S7 : w7.ownsRow w5.heap.size 75 66 (.slice A7 D.cache.length c7) D.cache.length (wcs D.cache) := by rw [hw7]; exact row_set hr6 lt5 _
  have L8 := (HS.out w7 B7).2.2.2
  have C7 := K6.mem.2.2.1
  have F7 := K6.frozen 7
  have l37 : w3.heap.size < w7.heap.size := M7.lt
  have H7 := Lib.hid (And.intro B7 (And.intro K7 (And.intro R7 (And.intro M7 (And.intro S7 (And.intro lt1 (And.intro lt3 (And.intro lt5 l37))))))))
  clear B5 K5 R5 M5 lt1 lt3 H5 lt5 B7 K6 K7 R7 M7 S7 l37 hr6 hb6 HW
  rw [hw7] at L8
  go_wp2_with fail
  rw [← hw7]
  clear hw7 L8 C7 F7
  refine (HN.out w7 H7.out.1).mono ?_
  rintro x w8 ⟨rfl, hm8, hb8⟩
  obtain ⟨w9, hw9⟩ : ∃ w9, w9 = w8.setCell ⟨w.heap.size, 8, none⟩ (.map (some w7.heap.size)) := ⟨_, rfl⟩
  obtain ⟨B7, K7, R7, M7, S7, lt1, lt3, lt5, l37⟩ := H7.out
  have lt7 : w.heap.size < w7.heap.size := K7.lt
  have B9 : Below w.heap.size w w9 := by rw [hw9]; exact below_set (B7.trans (hb8.mono (Nat.le_of_lt lt7))) (Nat.le_refl _) _
  have K8 := K7.same (hb8.block _ lt7)
  have K9 : DBlk w9 w.heap.size D.conv D.soft D.seq D.size D.opn (.slice (some ⟨g, 0, none⟩) D.n c2) w3.heap.size (.slice A7 D.cache.length c7) w7.heap.size D.down D.armed D.ill := by rw [hw9]; exact K8.set8 _
  have R9 : w9.ownsRow w1.heap.size 45 2 (.slice (some ⟨g, 0, none⟩) D.n c2) D.n (zc D.L) := by rw [hw9]; exact row_set (own_below R7 hb8) lt1 _
  have M9 : MapIs w9 w3.heap.size D.use D.last := by rw [hw9]; exact map_set (M7.below hb8) lt3 _
  have S9 : w9.ownsRow w5.heap.size 75 66 (.slice A7 D.cache.length c7) D.cache.length (wcs D.cache) := by rw [hw9]; exact row_set (own_below S7 hb8) lt5 _
  have N9 : MapIs w9 w7.heap.size D.cache.length (newestV D.cache) := by rw [hw9]; exact map_set hm8 lt7 _
  have C8 := K8.mem.2.2.2
  have F8 := K8.frozen 8
  have H9 : Hid (DevIs (fun k => w.heap.size ≤ k) w9 w.heap.size D ∧ Below w.heap.size w w9) :=
    Lib.hid ⟨⟨g, c2, w3.heap.size, .slice A7 D.cache.length c7, w7.heap.size, K9, own_base0 R9 (Nat.zero_le _), own_base0 S9 (Nat.zero_le _), M9, N9, Nat.le_refl _, Nat.le_trans (Nat.le_of_lt lt1) (R9.lt g rfl).1, Nat.le_of_lt lt3, Nat.le_of_lt lt7, fun g hg => Nat.le_trans (Nat.le_of_lt lt5) (S9.lt g hg).1, Nat.ne_of_lt l37⟩, B9⟩
  clear B7 K7 R7 M7 S7 lt1 lt3 lt5 l37 H7 lt7 B9 K8 K9 R9 M9 S9 N9 hm8 hb8 HN HS
  go_wp2
  rw [← hw9]
  clear hw9 C8 F8
  go_ret
  exact ⟨_, rfl, H9.out⟩
end Go.Proofs.Ytdacdnpghngiiaa

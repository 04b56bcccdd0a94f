/-
  ZoneL DevJ DevK
-/
import Derived.Test.YtgnpohkippegpaaGreatMg09
import Derived.Test.YtgnpohkippegpaaGreatMg08
import Derived.Laws.CopyOwn
import Derived.Deep.RegionLaw
/-
  Package zone: what each command does to the zones.
-/
namespace Go.Proofs.YtgnpohkippegpaaGreat
open Go.RowKit Geom Zone
set_option linter.unusedVariables false

/-- a function with a body is entered -/
theorem goes_in {P : Program} {f : FuncId} {fn : Func} {c : Code} (hf : P.funcs[f]? = some fn) (hname : (fn.name == "runtime.NumGoroutine") = false) (hb : fn.body = some c) (args : Array Value) (w : World) : (callFunc f args).run P w = .ok (.enter f args) w := by
  have h1 : fn.name ≠ "runtime.NumGoroutine" := by simpa using hname
  simp [callFunc, hf, h1, hb, mark]

section
variable (conv soft seq size opn zone off : Int) (A : Option Addr) (n cap : Nat) (L : List Z) (w : World) (hm : n ≤ 1000) (hn : L.length = n) (H : Some conv seq size) (hns : (n : Int) = conv + seq) (hr : Rd w w.heap.size A (zc L))

theorem Two.one {w w' : World} {conv soft seq size opn zone off : Int} (h : Two w w' conv soft seq size opn zone off) : One w w' conv soft seq size opn :=
  ⟨⟨h.1, h.2.1, h.2.2.1, h.2.2.2.1, h.2.2.2.2.1, by have := h.2.2.2.2.2.2.2.1; omega⟩, h.2.2.2.2.2.2.2.2⟩
theorem Two.at {w w' : World} {conv soft seq size opn zone off : Int} (h : Two w w' conv soft seq size opn zone off) : LiesAt w' (w.heap.size + 1) zone off :=
  ⟨h.2.2.2.2.2.1, h.2.2.2.2.2.2.1, h.2.2.2.2.2.2.2.1⟩

include hm hn H hns hr in
set_option maxRecDepth 100000 in
set_option maxHeartbeats 1000000 in
theorem zwrite_any (hsoft : soft ≤ 65536) :
    Calls Tryz.prog 31 #[.agg #[.int .i64 conv, .int .i64 soft, .int .i64 seq, .int .i64 size, .int .i64 opn], .slice A n cap, .agg #[.int .i64 zone, .int .i64 off]] w fun e w' =>
      ∃ g c, e = .returned (.tuple #[.slice (some ⟨g, 0, none⟩) n c, .int .i64 (writeL conv soft seq size opn L zone off).2]) ∧ w'.ownsRow w.heap.size 103 2 (.slice (some ⟨g, 0, none⟩) n c) n (zc (writeL conv soft seq size opn L zone off).1) ∧ Below w.heap.size w w' := by
  have H0 := Lib.hid (Two.new w conv soft seq size opn zone off 23 47)
  have HI := Lib.hid fun w => inside_any conv soft seq size opn zone off w H
  by_cases hi : inB conv soft seq size zone off = true
  · rw [hi] at HI
    rw [show writeL conv soft seq size opn L zone off = turnL (fun b z => writeZ off size b z) conv seq opn L zone from if_pos hi]
    have HT := Lib.hid fun w' (h : Two w w' conv soft seq size opn zone off) => turned_any 58 #[.pointer (some ⟨w.heap.size + 1, 0, none⟩), .pointer (some ⟨w.heap.size, 0, none⟩)] (fun b z => writeZ off size b z) conv soft seq size opn zone A n cap L w' hm hn H hns (hr.one h.one) (goes_in Tryz.func58 (by kernel_rfl) rfl)
      (fun s p b w2 hb => writeF_any s p conv soft seq size opn zone off (w.heap.size + 1) w.heap.size b w2 (in_bd hi hsoft H.2.2.2.2).1 (in_bd hi hsoft H.2.2.2.2).2 (h.below hb).at (h.below hb).one.1)
    clear hm hn H hns hr hi hsoft
    go_enter Tryz.func31, Tryz.ntmps31
    go_wp2_with fail
    generalize World.alloc _ _ = w0 at H0 ⊢
    refine (HI.out _).mono ?_
    rintro e w1 ⟨rfl, hb⟩
    have H1 := Lib.hid (Two.below H0.out hb)
    obtain ⟨c0, c1, c2, c3, c4, d0, d1, hlt, hbb⟩ := id H1.out
    clear H0 hb
    go_wp2_with fail
    refine (HT.out _ H1.out).mono ?_
    rintro e w2 ⟨g, c, rfl, hown, hb⟩
    have Hown := Lib.hid (own_base hown H1.out.one.2.size)
    have Hb := Lib.hid (bthen H1.out.one.2 hb)
    clear H1 HT hown hb c0 c1 c2 c3 c4 d0 d1 hlt hbb
    go_wp2
    go_ret2
    exact ⟨g, c, rfl, Hown.out, Hb.out⟩
  · have hi : inB conv soft seq size zone off = false := by simpa using hi
    rw [hi] at HI
    rw [show writeL conv soft seq size opn L zone off = (L, 6) from if_neg (by simp [hi])]
    have HK := Lib.hid fun w' (h : Two w w' conv soft seq size opn zone off) => clone_any A n cap L w' hm hn (by have := H.1; have := H.2.1; omega) (hr.one h.one)
    clear hm hn H hns hr hi hsoft
    go_enter Tryz.func31, Tryz.ntmps31
    go_wp2_with fail
    generalize World.alloc _ _ = w0 at H0 ⊢
    refine (HI.out _).mono ?_
    rintro e w1 ⟨rfl, hb⟩
    have H1 := Lib.hid (Two.below H0.out hb)
    clear H0 hb
    go_wp2_with fail
    refine (HK.out _ H1.out).mono ?_
    rintro e w2 ⟨g, c, rfl, hown, hb⟩
    have Hown := Lib.hid (own_base hown H1.out.one.2.size)
    have Hb := Lib.hid (bthen H1.out.one.2 hb)
    clear H1 HK hown hb
    go_wp2
    go_ret2
    exact ⟨g, c, rfl, Hown.out, Hb.out⟩

include hn H hns hr in
set_option maxRecDepth 100000 in
set_option maxHeartbeats 2000000 in
theorem zread_any :
    Calls Tryz.prog 30 #[.agg #[.int .i64 conv, .int .i64 soft, .int .i64 seq, .int .i64 size, .int .i64 opn], .slice A n cap, .agg #[.int .i64 zone, .int .i64 off]] w fun e w' =>
      e = .returned (.int .i64 (readE conv soft seq size L zone off)) ∧ Below w.heap.size w w' := by
  have H0 := Lib.hid (Two.new w conv soft seq size opn zone off 23 47)
  have HI := Lib.hid fun w => inside_any conv soft seq size opn zone off w H
  have HH := Lib.hid fun w => zhas_any conv soft seq size opn zone A n cap w H hns
  by_cases hh : hasB conv seq zone = true
  rotate_left
  · have HD := Lib.hid (show readE conv soft seq size L zone off = 6 from if_neg (fun h => hh (in_has h)))
    have hh : hasB conv seq zone = false := by simpa using hh
    rw [hh] at HH
    clear hn H hns hr hh
    go_enter Tryz.func30, Tryz.ntmps30
    go_wp2_with fail
    generalize World.alloc _ _ = w0 at H0 ⊢
    refine (HH.out _).mono ?_
    rintro e w1 ⟨rfl, hb⟩
    have H1 := Lib.hid (Two.below H0.out hb)
    clear H0 hb
    go_wp2
    go_ret
    exact ⟨ret_int HD.out, H1.out.one.2⟩
  obtain ⟨hz0, hz1⟩ := has_in hh
  rw [hh] at HH
  by_cases hi : inB conv soft seq size zone off = true
  rotate_left
  · have HD := Lib.hid (show readE conv soft seq size L zone off = 6 from if_neg hi)
    have hi : inB conv soft seq size zone off = false := by simpa using hi
    rw [hi] at HI
    clear hn H hns hr hh hi
    go_enter Tryz.func30, Tryz.ntmps30
    go_wp2_with fail
    generalize World.alloc _ _ = w0 at H0 ⊢
    refine (HH.out _).mono ?_
    rintro e w1 ⟨rfl, hb⟩
    have H1 := Lib.hid (Two.below H0.out hb)
    obtain ⟨c0, c1, c2, c3, c4, d0, d1, hlt, hbb⟩ := id H1.out
    clear H0 hb
    go_wp2_with fail
    refine (HI.out _).mono ?_
    rintro e w2 ⟨rfl, hb⟩
    have H2 := Lib.hid (Two.below H1.out hb)
    clear H1 hb c0 c1 c2 c3 c4 d0 d1 hlt hbb
    go_wp2
    go_ret
    exact ⟨ret_int HD.out, H2.out.one.2⟩
  rw [hi] at HI
  obtain ⟨k, rfl⟩ : ∃ k : Nat, zone = (k : Int) := ⟨zone.toNat, by omega⟩
  have hk : k < n := by omega
  have hkI : (k : Int) < (n : Int) := by omega
  have hzk := getD_of (L := L) (k := k) (d := (0, 0)) (by omega)
  have hza : zat L (k : Int) = L.getD k (0, 0) := by simp [zat]
  have HR := Lib.hid fun w' (h : Two w w' conv soft seq size opn k off) => (hr.one h.one).zone hzk
  have HD := Lib.hid (show readE conv soft seq size L (k : Int) off = if (zat L (k : Int)).1 ≠ 4 ∧ (zat L (k : Int)).2 ≤ off then 4 else 0 from if_pos hi)
  rw [hza] at HD
  generalize L.getD k (0, 0) = z at *
  have Hns := Lib.hid hns
  clear hn H hns hr hh hi hz0 hz1 hzk hza
  by_cases h4 : z.1 = 4
  · have hd : (z.1 != 4) = false := by simpa using h4
    rw [if_neg (fun h => h.1 h4)] at HD
    go_enter Tryz.func30, Tryz.ntmps30
    go_wp2_with fail
    generalize World.alloc _ _ = w0 at H0 ⊢
    refine (HH.out _).mono ?_
    rintro e w1 ⟨rfl, hb⟩
    have H1 := Lib.hid (Two.below H0.out hb)
    obtain ⟨c0, c1, c2, c3, c4, d0, d1, hlt, hbb⟩ := id H1.out
    clear H0 hb
    go_wp2_with fail
    refine (HI.out _).mono ?_
    rintro e w2 ⟨rfl, hb⟩
    have H2 := Lib.hid (Two.below H1.out hb)
    clear H1 hb c0 c1 c2 c3 c4 d0 d1 hlt hbb
    obtain ⟨ad, rfl, _, e0, e1⟩ := HR.out _ H2.out
    obtain ⟨c0, c1, c2, c3, c4, d0, d1, hlt, hbb⟩ := id H2.out
    have HB := Lib.hid fun o => hbb.alloc hbb.size o
    go_wp2
    go_ret
    exact ⟨ret_int HD.out, HB.out _⟩
  have hd : (z.1 != 4) = true := by simpa using h4
  by_cases hp : z.2 ≤ off
  · rw [if_pos ⟨h4, hp⟩] at HD
    go_enter Tryz.func30, Tryz.ntmps30
    go_wp2_with fail
    generalize World.alloc _ _ = w0 at H0 ⊢
    refine (HH.out _).mono ?_
    rintro e w1 ⟨rfl, hb⟩
    have H1 := Lib.hid (Two.below H0.out hb)
    obtain ⟨c0, c1, c2, c3, c4, d0, d1, hlt, hbb⟩ := id H1.out
    clear H0 hb
    go_wp2_with fail
    refine (HI.out _).mono ?_
    rintro e w2 ⟨rfl, hb⟩
    have H2 := Lib.hid (Two.below H1.out hb)
    clear H1 hb c0 c1 c2 c3 c4 d0 d1 hlt hbb
    obtain ⟨ad, rfl, _, e0, e1⟩ := HR.out _ H2.out
    obtain ⟨c0, c1, c2, c3, c4, d0, d1, hlt, hbb⟩ := id H2.out
    have HB := Lib.hid fun o => hbb.alloc hbb.size o
    go_wp2
    go_ret
    exact ⟨ret_int HD.out, HB.out _⟩
  · have hd2 : decide (z.2 ≤ off) = false := decide_eq_false hp
    rw [if_neg (fun h => hp h.2)] at HD
    go_enter Tryz.func30, Tryz.ntmps30
    go_wp2_with fail
    generalize World.alloc _ _ = w0 at H0 ⊢
    refine (HH.out _).mono ?_
    rintro e w1 ⟨rfl, hb⟩
    have H1 := Lib.hid (Two.below H0.out hb)
    obtain ⟨c0, c1, c2, c3, c4, d0, d1, hlt, hbb⟩ := id H1.out
    clear H0 hb
    go_wp2_with fail
    refine (HI.out _).mono ?_
    rintro e w2 ⟨rfl, hb⟩
    have H2 := Lib.hid (Two.below H1.out hb)
    clear H1 hb c0 c1 c2 c3 c4 d0 d1 hlt hbb
    obtain ⟨ad, rfl, _, e0, e1⟩ := HR.out _ H2.out
    obtain ⟨c0, c1, c2, c3, c4, d0, d1, hlt, hbb⟩ := id H2.out
    have HB := Lib.hid fun o => hbb.alloc hbb.size o
    go_wp2
    go_ret
    exact ⟨ret_int HD.out, HB.out _⟩

end
end Go.Proofs.YtgnpohkippegpaaGreat

/-
  Package dev: tear: the first bytes of the sector that was being written.
-/
namespace Go.Proofs.YtgnpohkippegpaaGreat
open Go.RowKit Geom Zone Dev
set_option linter.unusedVariables false

namespace Dev
def z64 : List Int := List.replicate 64 0
def tearL (conv soft seq size opn : Int) (L : List Z) (last : Pl → Option Value) (c : Wr) (tn : Nat) (p : List Int) : List Z × (Pl → Option Value) :=
  if (writeL conv soft seq size opn L c.1 c.2.1).2 = 0 then ((writeL conv soft seq size opn L c.1 c.2.1).1.map pow, updM last c.pl (some (pgv (c.2.2.take tn ++ p.drop tn)))) else (L, last)
end Dev
theorem writeL_length (conv soft seq size opn : Int) (L : List Z) (zone off : Int) : (writeL conv soft seq size opn L zone off).1.length = L.length := by
  unfold writeL
  split
  · exact turnL_length _ _ _ _ _ _
  · rfl
theorem zero_page (w : World) : (zeroValue 43).run Tryz.prog w = .ok (pgv z64) w :=
  (zero_of_info (P := Tryz.prog) (t := 43) (v := pgv z64) (n := 64) (by kernel_rfl)).1 w

section
variable {w : World} {d : Nat} {conv soft seq size opn : Int} {zv : Value} {lb : Nat} {cv : Value} {nb : Nat} {down : Bool} {armed ill : Int}
end
end Go.Proofs.YtgnpohkippegpaaGreat

/-
  Package dev: a device, said in one word; a crash.
-/
namespace Go.Proofs.YtgnpohkippegpaaGreat
open Go.RowKit Geom Zone Dev
set_option linter.unusedVariables false

/-- where all orders of a region come to one end, but for what a call has made -/
def MeetE (A : World → Nat → Nat → Act) (W : World → Nat → Nat → World) (R : World → Nat → Nat → Prop) : Exit → Act → World → Prop
  | .normal, a, w => ∃ w5 g c, R w5 g c ∧ a = A w5 g c ∧ w = W w5 g c
  | _, _, _ => False
theorem wp_meetE {P : Program} {c : Code} {Q : Exit → Act → World → Prop} {a : Act} {w : World} {A : World → Nat → Nat → Act} {W : World → Nat → Nat → World} (R : World → Nat → Nat → Prop) (h : c.wp P (MeetE A W R) a w)
    (h2 : ∀ w5 g c, R w5 g c → Q .normal (A w5 g c) (W w5 g c)) : c.wp P Q a w :=
  Code.wp_mono (fun e a' w' hm => by
    cases e <;> first | exact (hm : False).elim | (obtain ⟨w5, g, c, hr, rfl, rfl⟩ := (hm : ∃ w5 g c, R w5 g c ∧ a' = A w5 g c ∧ w' = W w5 g c); exact h2 w5 g c hr)) h

section
variable {w : World} {d : Nat} {conv soft seq size opn : Int} {zv : Value} {lb : Nat} {cv : Value} {nb : Nat} {down : Bool} {armed ill : Int}
variable {n cz gz bl bt be bx bd bs' bw bk gk : Nat} {keepA : Option Addr} {kn kc : Nat} {keep : List Int} {soft0 tear : Int}

/-- the blocks that the closure of a crash looks at -/
def CrJ (gz bl bt be bx bd bs bw bk gk : Nat) (keepA : Option Addr) (keep : List Int) (k : Nat) : Prop :=
  k = gz ∨ k = bl ∨ k = bt ∨ k = be ∨ k = bx ∨ k = bd ∨ k = bs ∨ k = bw ∨ k = bk ∨ k = gk ∨ (∃ ad, keepA = some ad ∧ ints keep ≠ [] ∧ k = ad.block)
end

namespace Dev
/-- a device, plainly -/
structure Dv where
  conv : Int
  soft : Int
  seq : Int
  size : Int
  opn : Int
  n : Nat
  L : List Z
  last : Pl → Option Value
  use : Nat
  cache : List Wr
  down : Bool
  armed : Int
  ill : Int
/-- a crash, plainly: what is left, what stands where; 'p': what stood at the last sector's place -/
def crashS (D : Dv) (keep : List Int) (soft0 : Int) : Cst × List Wr × (Pl → Option Value) :=
  stl (crs D.conv keep) D.cache (⟨soft0, List.replicate D.n 0, true, (0, 0, z64), D.L⟩, [], D.last)
end Dev
theorem wc_zero : (wc ((0, 0, z64) : Wr)).toArray = Tryz.zeroCells76 := by kernel_rfl

/-- 'Dev T w d D': block d is the device D, in blocks of T -/
def DevIs (T : Nat → Prop) (w : World) (d : Nat) (D : Dv) : Prop :=
  ∃ gz cz lb cv nb, DBlk w d D.conv D.soft D.seq D.size D.opn (.slice (some ⟨gz, 0, none⟩) D.n cz) lb cv nb D.down D.armed D.ill ∧ w.ownsRow 0 103 2 (.slice (some ⟨gz, 0, none⟩) D.n cz) D.n (zc D.L) ∧
    w.ownsRow 0 76 66 cv D.cache.length (wcs D.cache) ∧ MapIs w lb D.use D.last ∧ MapIs w nb D.cache.length (newestV D.cache) ∧ T d ∧ T gz ∧ T lb ∧ T nb ∧ (∀ g, cv.ownBlock = some g → T g) ∧ lb ≠ nb
/-- what all devices keep to -/
structure DvOk (D : Dv) : Prop where
  ok : Ok D.conv D.soft D.seq D.size D.opn
  ns : (D.n : Int) = D.conv + D.seq
  nl : D.n ≤ 1000
  fit : Fit D.conv D.seq D.size D.opn D.L
  wok : WOk D.cache
  place : ∀ c ∈ D.cache, 0 ≤ c.1 ∧ c.1 < D.n ∧ 0 ≤ c.2.1 ∧ c.2.1 < sectors D.conv D.soft D.seq D.size c.1
  pages : ∀ a v, D.last a = some v → ∃ p : List Int, p.length = 64 ∧ v = pgv p
  use : D.use ≤ 10000000
  cl : D.cache.length ≤ 100000
  ill0 : 0 ≤ D.ill
  ill1 : D.ill ≤ 1000000
  arm0 : 0 ≤ D.armed
  arm1 : D.armed ≤ 9223372036854775807
end Go.Proofs.YtgnpohkippegpaaGreat

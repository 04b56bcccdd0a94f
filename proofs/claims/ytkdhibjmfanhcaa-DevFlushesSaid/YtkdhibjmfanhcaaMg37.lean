/-
  ZoneR ZoneS ZoneX
-/
import Derived.Test.YtkdhibjmfanhcaaMg36
import Derived.Test.YtkdhibjmfanhcaaMg22
/-
  'awake' answers true.
-/
namespace Go.Proofs.Ytkdhibjmfanhcaa
open Go.RowKit Geom Zone
set_option linter.unusedVariables false

theorem eg_ok : Ok 2 8 6 8 3 := by decide
theorem eg_some : Some 2 6 8 := by unfold Some; decide
/-- the zones of the example -/
def eg0 : List Z := newK 8 2
def eg1 : List Z := [(4, 0), (4, 0), (1, 1), (0, 0), (0, 0), (0, 0), (0, 0), (0, 0)]
def eg2 : List Z := [(4, 0), (4, 0), (1, 2), (0, 0), (0, 0), (0, 0), (0, 0), (0, 0)]
theorem eg_w0 : writeL 2 8 6 8 3 eg0 2 0 = (eg1, 0) := by decide
theorem eg_w1 : writeL 2 8 6 8 3 eg1 2 1 = (eg2, 0) := by decide
theorem eg_w2 : writeL 2 8 6 8 3 eg2 2 3 = (eg2, 4) := by decide
theorem eg_fit : fitB 2 6 8 3 eg2 = true := by decide
theorem eg_read : readE 2 8 6 8 eg2 2 2 = 4 := by decide

theorem eg_write {L L' : List Z} {zone off e : Int} (h : writeL 2 8 6 8 3 L zone off = (L', e)) (hn : L.length = 8) (A : Option Addr) (cap : Nat) (w : World) (hr : Rd w w.heap.size A (zc L)) :
    Calls Try.prog 46 #[.agg #[.int .i64 2, .int .i64 8, .int .i64 6, .int .i64 8, .int .i64 3], .slice A 8 cap, .agg #[.int .i64 zone, .int .i64 off]] w fun x w' =>
      ∃ g c, x = .returned (.tuple #[.slice (some ⟨g, 0, none⟩) 8 c, .int .i64 e]) ∧ w'.ownsRow w.heap.size 53 2 (.slice (some ⟨g, 0, none⟩) 8 c) 8 (zc L') ∧ Below w.heap.size w w' := by
  have := zwrite_any 2 8 6 8 3 zone off A 8 cap L w (by decide) hn eg_some (by decide) hr (by decide)
  rw [h] at this
  exact this

end Go.Proofs.Ytkdhibjmfanhcaa

/-
  Zones, acts as arguments; the walk of the law ZoneKeeps.
-/
namespace Go.Proofs.Ytkdhibjmfanhcaa
open Go.RowKit Geom Zone
open Go.ChangeShapes Go.WideShapes
set_option linter.unusedVariables false

theorem wf_u8i {x : Int} (h : (Lit.int .u8 x).wf = true) : 0 ≤ x ∧ x ≤ 255 := by
  simpa [Lit.wf, IntKind.min, IntKind.max, IntKind.signed, IntKind.bits] using h
theorem rows_zones {w : World} : ∀ rows : List (List Value), (∀ r ∈ rows, r.length = 2 ∧ Has (.pair 1 (.int .i64) (.pair 1 (.int .i64) .nil)) w r) → ∃ L : List Z, L.length = rows.length ∧ rows.flatten = zc L
  | [], _ => ⟨[], rfl, rfl⟩
  | r :: rows, h => by
    obtain ⟨L, h1, h2⟩ := rows_zones rows fun x hx => h x (List.mem_cons_of_mem _ hx)
    obtain ⟨_, _, _, rfl, _, ⟨s, rfl, _⟩, _, _, rfl, _, ⟨p, rfl, _⟩, rfl⟩ := h r List.mem_cons_self
    exact ⟨(s, p) :: L, by simp [h1], by rw [List.flatten_cons, h2]; rfl⟩
set_option maxRecDepth 100000 in
theorem open_zones {H : Type} {enc : TypeId × Value → H} {w : World} {base b0 : Nat} {r : Reach} {sp : Nat → Bool} {held : Bool} {v : Value} {d : DataW H} {ps : List MemPlace}
    (hu : Value.okWide Try.prog w r b0 33 v) (h : DataW.Trod enc Try.prog w base sp held 33 v d ps) :
    ∃ (A : Option Addr) (n cap : Nat) (L : List Z), v = .slice A n cap ∧ n ≤ maxLen ∧ L.length = n ∧ Rd w w.heap.size A (zc L) := by
  obtain ⟨a, len, cap, rfl⟩ := okWide_slice Try.underlying33 hu
  have hs := has_of (s := .slice 2 (.pair 1 (.int .i64) (.pair 1 (.int .i64) .nil))) 4 (by kernel_rfl) h
  obtain ⟨A, n, c, rows, h1, h2, h3, h4, h5, h6⟩ := hs
  obtain ⟨L, h7, h8⟩ := rows_zones rows h6
  have h9 : [Value.slice a len cap] = [.slice A n c] := h1
  obtain ⟨rfl, rfl, rfl⟩ : a = A ∧ len = n ∧ cap = c := by simpa using h9
  exact ⟨a, len, cap, L, rfl, by omega, by omega, by rw [← h8]; exact h5⟩

end Go.Proofs.Ytkdhibjmfanhcaa

/-
  The document's answer for what is asked: what it comes to. No program; then the walks that end early.
-/
namespace Go.Proofs.Ytkdhibjmfanhcaa
open Go.RowKit Geom Zone
set_option linter.unusedVariables false

namespace Zone
theorem act_at {conv soft seq size opn off k e : Int} {L : List Z} {j : Nat} {z z' : Z} (h6 : k ≠ 6) (h1 : k ≠ 1) (hh : hasB conv seq j = true) (hi : k = 0 → inB conv soft seq size j off = true) (hz : L[j]? = some z)
    (ht : turn k off size (decide ((cnt L : Int) < opn)) z = (z', e)) : act conv soft seq size opn L k j off = (L.set j z', e) := by
  have hza : zat L (j : Int) = z := by unfold zat; rw [List.getD_eq_getElem?_getD, Int.toNat_natCast, hz]; rfl
  unfold act
  rw [if_neg h6, if_neg (by simp [hh]), if_neg (by rintro ⟨h2 | h2, h3⟩; rw [hi h2] at h3; cases h3; exact h1 h2), if_neg h1, hza, ht]
  rfl
theorem set_same {L : List Z} {j : Nat} {z : Z} (hz : L[j]? = some z) : L.set j z = L := by
  apply List.ext_getElem?
  intro i
  by_cases e : i = j
  · subst e
    rw [List.getElem?_set_self (List.getElem?_eq_some_iff.1 hz).1, hz]
  · rw [List.getElem?_set_ne (Ne.symm e)]
theorem act_err_at {conv soft seq size opn off k e : Int} {L : List Z} {j : Nat} {z : Z} (h6 : k ≠ 6) (h1 : k ≠ 1) (hh : hasB conv seq j = true) (hi : k = 0 → inB conv soft seq size j off = true) (hz : L[j]? = some z)
    (ht : turn k off size (decide ((cnt L : Int) < opn)) z = (z, e)) : act conv soft seq size opn L k j off = (L, e) := by
  rw [act_at h6 h1 hh hi hz ht, set_same hz]
theorem act_read_at {conv soft seq size opn off : Int} {L : List Z} {j : Nat} {z : Z} (hi : inB conv soft seq size j off = true) (hz : L[j]? = some z) : act conv soft seq size opn L 1 j off = (L, if z.1 ≠ 4 ∧ z.2 ≤ off then 4 else 0) := by
  have hza : zat L (j : Int) = z := by unfold zat; rw [List.getD_eq_getElem?_getD, Int.toNat_natCast, hz]; rfl
  rw [act_1]
  unfold readE
  rw [if_pos hi, hza]
theorem act_none {conv soft seq size opn off k zone : Int} {L : List Z} (h6 : k ≠ 6) (hh : hasB conv seq zone = false) : act conv soft seq size opn L k zone off = (L, 6) := by
  unfold act
  rw [if_neg h6, if_pos hh]
theorem act_out {conv soft seq size opn off k zone : Int} {L : List Z} (hk : k = 0 ∨ k = 1) (hi : inB conv soft seq size zone off = false) : act conv soft seq size opn L k zone off = (L, 6) := by
  unfold act
  rw [if_neg (by omega)]
  by_cases hh : hasB conv seq zone = true
  · rw [if_neg (by simp [hh]), if_pos ⟨hk, hi⟩]
  · rw [if_pos (by simpa using hh)]
theorem fit_at {conv seq size opn : Int} {L : List Z} (h : Fit conv seq size opn L) {j : Nat} {z : Z} (hz : L[j]? = some z) : fitZ conv size j z := by
  have h4 := h.2.2 j (List.getElem?_eq_some_iff.1 hz).1
  rw [List.getD_eq_getElem?_getD, hz] at h4
  exact h4
end Zone

/-- what the document's answer comes to -/
def GivesR (A : Option Addr) (w w' : World) (e : Ending) (n : Nat) (r : List Z × Int) : Prop :=
  ∃ A' c', e = .returned (.tuple #[.slice A' n c', .int .i64 r.2]) ∧ Rd w' w'.heap.size A' (zc r.1) ∧ Below w.heap.size w w' ∧ (A' = A ∨ ∀ ad, A' = some ad → w.heap.size ≤ ad.block)
/-- a row that the call made lies behind all that was there -/
theorem prov_own {w w' : World} {B : Nat} {e : TypeId} {size n c : Nat} {A' : Option Addr} {xs : List Value} (h : w'.ownsRow B e size (.slice A' n c) n xs) (hs : w.heap.size ≤ B) : ∀ ad, A' = some ad → w.heap.size ≤ ad.block := by
  intro ad hA
  subst hA
  rcases h.2 with ⟨h2, _⟩ | ⟨g, cap, cur, h1, h2, _⟩
  · cases h2
  · injection h1 with h1 _ _
    injection h1 with h1
    subst h1
    exact Nat.le_trans hs h2

section
variable (conv soft seq size opn zone off : Int) (A : Option Addr) (n cap : Nat) (L : List Z) (w : World) (hm : n ≤ 1000) (hn : L.length = n) (hok : Ok conv soft seq size opn) (hr : Rd w w.heap.size A (zc L))
include hok hr in
set_option maxRecDepth 100000 in
set_option maxHeartbeats 2000000 in
theorem ract_none (k : Int) (hk : 0 ≤ k ∧ k ≤ 5) (hh : hasB conv seq zone = false) :
    Calls Try.prog 28 #[.agg #[.int .i64 conv, .int .i64 soft, .int .i64 seq, .int .i64 size, .int .i64 opn], .slice A n cap, .int .i64 k, .agg #[.int .i64 zone, .int .i64 off]] w fun e w' => GivesR A w w' e n (act conv soft seq size opn L k zone off) := by
  have H0 := Lib.hid (Two.new w conv soft seq size opn zone off 23 40)
  rw [act_none (by omega) hh]
  have hs : sectors conv soft seq size zone = 0 := by
    unfold sectors
    refine if_pos ?_
    have : ¬ (0 ≤ zone ∧ zone < conv + seq) := of_decide_eq_false hh
    omega
  have HS := Lib.hid fun w => rsectors_any conv soft seq size opn zone w hok.some
  rw [hs] at HS
  clear hs hok
  go_enter Try.func28, Try.ntmps28
  go_wp2_with fail
  generalize World.alloc _ _ = w0 at H0 ⊢
  refine (HS.out _).mono ?_
  rintro e w1 ⟨rfl, hb⟩
  have H1 := Lib.hid (Two.below H0.out hb)
  have R1 := Lib.hid (hr.one H1.out.one)
  obtain ⟨c0, c1, c2, c3, c4, d0, d1, hlt, hbb⟩ := id H1.out
  clear H0 hb hr
  go_wp2
  go_ret2
  exact ⟨A, cap, rfl, R1.out, H1.out.one.2, .inl rfl⟩
include hok hr in
set_option maxRecDepth 100000 in
set_option maxHeartbeats 2000000 in
theorem ract_out (k : Int) (hk : k = 0 ∨ k = 1) (hh : hasB conv seq zone = true) (hi : inB conv soft seq size zone off = false) :
    Calls Try.prog 28 #[.agg #[.int .i64 conv, .int .i64 soft, .int .i64 seq, .int .i64 size, .int .i64 opn], .slice A n cap, .int .i64 k, .agg #[.int .i64 zone, .int .i64 off]] w fun e w' => GivesR A w w' e n (act conv soft seq size opn L k zone off) := by
  have H0 := Lib.hid (Two.new w conv soft seq size opn zone off 23 40)
  rw [act_out hk hi]
  have hs : 0 < sectors conv soft seq size zone := by
    obtain ⟨z0, z1⟩ := has_in hh
    have hp := pages_bd hok.some
    have h1 := hok.2.2.2.1
    have h2 := hok.2.2.2.2.2.2.1
    unfold sectors
    rw [if_neg (by omega)]
    split <;> omega
  have hi2 : ¬ (0 ≤ off ∧ off < sectors conv soft seq size zone) := of_decide_eq_false hi
  have HS := Lib.hid fun w => rsectors_any conv soft seq size opn zone w hok.some
  generalize sectors conv soft seq size zone = ss at HS hs hi2
  have hs0 : (ss == 0) = false := by simp; omega
  have hk1 : k ≤ 1 := by omega
  clear hok hh hi
  by_cases ho : off < 0
  · clear hi2
    rcases hk with rfl | rfl
    · go_enter Try.func28, Try.ntmps28
      go_wp2_with fail
      generalize World.alloc _ _ = w0 at H0 ⊢
      refine (HS.out _).mono ?_
      rintro e w1 ⟨rfl, hb⟩
      have H1 := Lib.hid (Two.below H0.out hb)
      have R1 := Lib.hid (hr.one H1.out.one)
      obtain ⟨c0, c1, c2, c3, c4, d0, d1, hlt, hbb⟩ := id H1.out
      clear H0 hb hr
      go_wp2
      go_ret2
      exact ⟨A, cap, rfl, R1.out, H1.out.one.2, .inl rfl⟩
    · go_enter Try.func28, Try.ntmps28
      go_wp2_with fail
      generalize World.alloc _ _ = w0 at H0 ⊢
      refine (HS.out _).mono ?_
      rintro e w1 ⟨rfl, hb⟩
      have H1 := Lib.hid (Two.below H0.out hb)
      have R1 := Lib.hid (hr.one H1.out.one)
      obtain ⟨c0, c1, c2, c3, c4, d0, d1, hlt, hbb⟩ := id H1.out
      clear H0 hb hr
      go_wp2
      go_ret2
      exact ⟨A, cap, rfl, R1.out, H1.out.one.2, .inl rfl⟩
  · have ho2 : decide (off < 0) = false := decide_eq_false ho
    have ho3 : ss ≤ off := by omega
    clear hi2
    rcases hk with rfl | rfl
    · go_enter Try.func28, Try.ntmps28
      go_wp2_with fail
      generalize World.alloc _ _ = w0 at H0 ⊢
      refine (HS.out _).mono ?_
      rintro e w1 ⟨rfl, hb⟩
      have H1 := Lib.hid (Two.below H0.out hb)
      have R1 := Lib.hid (hr.one H1.out.one)
      obtain ⟨c0, c1, c2, c3, c4, d0, d1, hlt, hbb⟩ := id H1.out
      clear H0 hb hr
      go_wp2
      go_ret2
      exact ⟨A, cap, rfl, R1.out, H1.out.one.2, .inl rfl⟩
    · go_enter Try.func28, Try.ntmps28
      go_wp2_with fail
      generalize World.alloc _ _ = w0 at H0 ⊢
      refine (HS.out _).mono ?_
      rintro e w1 ⟨rfl, hb⟩
      have H1 := Lib.hid (Two.below H0.out hb)
      have R1 := Lib.hid (hr.one H1.out.one)
      obtain ⟨c0, c1, c2, c3, c4, d0, d1, hlt, hbb⟩ := id H1.out
      clear H0 hb hr
      go_wp2
      go_ret2
      exact ⟨A, cap, rfl, R1.out, H1.out.one.2, .inl rfl⟩
end
end Go.Proofs.Ytkdhibjmfanhcaa

/-
  What is asked of package zone, told by one number.
-/
import Derived.Test.YtdcidjbgncbcpaaZoneL
namespace Go.Proofs.Ytdcidjbgncbcpaa
open Go.RowKit Geom Zone
set_option linter.unusedVariables false

/-- what comes of an act: zones, and why not -/
def Gives (w w' : World) (T : TypeId) (e : Ending) (n : Nat) (k : Int) (r : List Z × Int) : Prop :=
  ∃ A' c', e = .returned (.tuple #[.slice A' n c', .int .i64 r.2]) ∧ Rd w' w'.heap.size A' (zc r.1) ∧ (k ≠ 1 → w'.ownsRow w.heap.size T 2 (.slice A' n c') n (zc r.1)) ∧ Below w.heap.size w w'

section
variable (conv soft seq size opn zone off : Int) (A : Option Addr) (n cap : Nat) (L : List Z) (w : World) (hm : n ≤ 1000) (hn : L.length = n) (H : Some conv seq size) (hns : (n : Int) = conv + seq) (hr : Rd w w.heap.size A (zc L)) (hsoft : soft ≤ 65536)

include hm hn H hns hr hsoft in
theorem zact0_any :
    Calls Try.prog 15 #[.agg #[.int .i64 conv, .int .i64 soft, .int .i64 seq, .int .i64 size, .int .i64 opn], .slice A n cap, .int .i64 0, .agg #[.int .i64 zone, .int .i64 off]] w fun e w' => Gives w w' 42 e n 0 (act conv soft seq size opn L 0 zone off) := by
  have H0 := Lib.hid (Two.new w conv soft seq size opn zone off 23 26)
  have HT := Lib.hid fun w' (h : Two w w' conv soft seq size opn zone off) => zwrite_any conv soft seq size opn zone off A n cap L w' hm hn H hns (hr.one h.one) hsoft
  rw [act_0]
  have hsz := H0.out.one.2.size
  clear hn H hns hr
  go_enter Try.func15, Try.ntmps15
  go_wp2_with fail
  generalize World.alloc _ _ = w0 at H0 hsz ⊢
  refine (HT.out _ H0.out).mono ?_
  rintro e w1 ⟨g, c, rfl, hown, hb⟩
  have Hown := Lib.hid (own_base hown hsz)
  have Hb := Lib.hid (bthen H0.out.one.2 hb)
  clear H0 HT hown hb
  go_wp2
  go_ret2
  exact ⟨_, c, rfl, Rd.own Hown.out, fun _ => Hown.out, Hb.out⟩

include hn H hns hr in
theorem zact1_any :
    Calls Try.prog 15 #[.agg #[.int .i64 conv, .int .i64 soft, .int .i64 seq, .int .i64 size, .int .i64 opn], .slice A n cap, .int .i64 1, .agg #[.int .i64 zone, .int .i64 off]] w fun e w' => Gives w w' 42 e n 1 (act conv soft seq size opn L 1 zone off) := by
  have H0 := Lib.hid (Two.new w conv soft seq size opn zone off 23 26)
  have HT := Lib.hid fun w' (h : Two w w' conv soft seq size opn zone off) => zread_any conv soft seq size opn zone off A n cap L w' hn H hns (hr.one h.one)
  rw [act_1]
  have hsz := H0.out.one.2.size
  clear hn H hns 
  go_enter Try.func15, Try.ntmps15
  go_wp2_with fail
  generalize World.alloc _ _ = w0 at H0 hsz ⊢
  refine (HT.out _ H0.out).mono ?_
  rintro e w1 ⟨rfl, hb⟩
  have Hb := Lib.hid (bthen H0.out.one.2 hb)
  have HRd := Lib.hid (((hr.one H0.out.one).below hb).more hb.size)
  clear H0 HT hr hb
  go_wp2
  go_ret2
  exact ⟨A, cap, rfl, HRd.out, fun h => absurd rfl h, Hb.out⟩

include hm hn H hns hr in
theorem zact2_any :
    Calls Try.prog 15 #[.agg #[.int .i64 conv, .int .i64 soft, .int .i64 seq, .int .i64 size, .int .i64 opn], .slice A n cap, .int .i64 2, .agg #[.int .i64 zone, .int .i64 off]] w fun e w' => Gives w w' 42 e n 2 (act conv soft seq size opn L 2 zone off) := by
  have H0 := Lib.hid (Two.new w conv soft seq size opn zone off 23 26)
  have HT := Lib.hid fun w' (h : Two w w' conv soft seq size opn zone off) => zreset_any conv soft seq size opn zone A n cap L w' hm hn H hns (hr.one h.one)
  rw [act_2]
  have hsz := H0.out.one.2.size
  clear hn H hns hr
  go_enter Try.func15, Try.ntmps15
  go_wp2_with fail
  generalize World.alloc _ _ = w0 at H0 hsz ⊢
  refine (HT.out _ H0.out).mono ?_
  rintro e w1 ⟨g, c, rfl, hown, hb⟩
  have Hown := Lib.hid (own_base hown hsz)
  have Hb := Lib.hid (bthen H0.out.one.2 hb)
  clear H0 HT hown hb
  go_wp2
  go_ret2
  exact ⟨_, c, rfl, Rd.own Hown.out, fun _ => Hown.out, Hb.out⟩

include hm hn H hns hr in
theorem zact3_any :
    Calls Try.prog 15 #[.agg #[.int .i64 conv, .int .i64 soft, .int .i64 seq, .int .i64 size, .int .i64 opn], .slice A n cap, .int .i64 3, .agg #[.int .i64 zone, .int .i64 off]] w fun e w' => Gives w w' 42 e n 3 (act conv soft seq size opn L 3 zone off) := by
  have H0 := Lib.hid (Two.new w conv soft seq size opn zone off 23 26)
  have HT := Lib.hid fun w' (h : Two w w' conv soft seq size opn zone off) => zfinish_any conv soft seq size opn zone A n cap L w' hm hn H hns (hr.one h.one)
  rw [act_3]
  have hsz := H0.out.one.2.size
  clear hn H hns hr
  go_enter Try.func15, Try.ntmps15
  go_wp2_with fail
  generalize World.alloc _ _ = w0 at H0 hsz ⊢
  refine (HT.out _ H0.out).mono ?_
  rintro e w1 ⟨g, c, rfl, hown, hb⟩
  have Hown := Lib.hid (own_base hown hsz)
  have Hb := Lib.hid (bthen H0.out.one.2 hb)
  clear H0 HT hown hb
  go_wp2
  go_ret2
  exact ⟨_, c, rfl, Rd.own Hown.out, fun _ => Hown.out, Hb.out⟩

include hm hn H hns hr in
theorem zact4_any :
    Calls Try.prog 15 #[.agg #[.int .i64 conv, .int .i64 soft, .int .i64 seq, .int .i64 size, .int .i64 opn], .slice A n cap, .int .i64 4, .agg #[.int .i64 zone, .int .i64 off]] w fun e w' => Gives w w' 42 e n 4 (act conv soft seq size opn L 4 zone off) := by
  have H0 := Lib.hid (Two.new w conv soft seq size opn zone off 23 26)
  have HT := Lib.hid fun w' (h : Two w w' conv soft seq size opn zone off) => zopen_any conv soft seq size opn zone A n cap L w' hm hn H hns (hr.one h.one)
  rw [act_4]
  have hsz := H0.out.one.2.size
  clear hn H hns hr
  go_enter Try.func15, Try.ntmps15
  go_wp2_with fail
  generalize World.alloc _ _ = w0 at H0 hsz ⊢
  refine (HT.out _ H0.out).mono ?_
  rintro e w1 ⟨g, c, rfl, hown, hb⟩
  have Hown := Lib.hid (own_base hown hsz)
  have Hb := Lib.hid (bthen H0.out.one.2 hb)
  clear H0 HT hown hb
  go_wp2
  go_ret2
  exact ⟨_, c, rfl, Rd.own Hown.out, fun _ => Hown.out, Hb.out⟩

include hm hn H hns hr in
theorem zact5_any :
    Calls Try.prog 15 #[.agg #[.int .i64 conv, .int .i64 soft, .int .i64 seq, .int .i64 size, .int .i64 opn], .slice A n cap, .int .i64 5, .agg #[.int .i64 zone, .int .i64 off]] w fun e w' => Gives w w' 42 e n 5 (act conv soft seq size opn L 5 zone off) := by
  have H0 := Lib.hid (Two.new w conv soft seq size opn zone off 23 26)
  have HT := Lib.hid fun w' (h : Two w w' conv soft seq size opn zone off) => zclose_any conv soft seq size opn zone A n cap L w' hm hn H hns (hr.one h.one)
  rw [act_5]
  have hsz := H0.out.one.2.size
  clear hn H hns hr
  go_enter Try.func15, Try.ntmps15
  go_wp2_with fail
  generalize World.alloc _ _ = w0 at H0 hsz ⊢
  refine (HT.out _ H0.out).mono ?_
  rintro e w1 ⟨g, c, rfl, hown, hb⟩
  have Hown := Lib.hid (own_base hown hsz)
  have Hb := Lib.hid (bthen H0.out.one.2 hb)
  clear H0 HT hown hb
  go_wp2
  go_ret2
  exact ⟨_, c, rfl, Rd.own Hown.out, fun _ => Hown.out, Hb.out⟩

include hm hn H hns hr in
theorem zact6_any :
    Calls Try.prog 15 #[.agg #[.int .i64 conv, .int .i64 soft, .int .i64 seq, .int .i64 size, .int .i64 opn], .slice A n cap, .int .i64 6, .agg #[.int .i64 zone, .int .i64 off]] w fun e w' => Gives w w' 42 e n 6 (act conv soft seq size opn L 6 zone off) := by
  have H0 := Lib.hid (Two.new w conv soft seq size opn zone off 23 26)
  have HT := Lib.hid fun w' (h : Two w w' conv soft seq size opn zone off) => zpower_any A n cap L w' hm hn (by have := H.1; have := H.2.1; omega) (hr.one h.one)
  rw [act_6]
  have hsz := H0.out.one.2.size
  clear hn H hns hr
  go_enter Try.func15, Try.ntmps15
  go_wp2_with fail
  generalize World.alloc _ _ = w0 at H0 hsz ⊢
  refine (HT.out _ H0.out).mono ?_
  rintro e w1 ⟨g, c, rfl, hown, hb⟩
  have Hown := Lib.hid (own_base hown hsz)
  have Hb := Lib.hid (bthen H0.out.one.2 hb)
  clear H0 HT hown hb
  go_wp2
  go_ret2
  exact ⟨_, c, rfl, Rd.own Hown.out, fun _ => Hown.out, Hb.out⟩

include hm hn H hns hr hsoft in
theorem zact_any (k : Int) (hk : 0 ≤ k ∧ k < 7) :
    Calls Try.prog 15 #[.agg #[.int .i64 conv, .int .i64 soft, .int .i64 seq, .int .i64 size, .int .i64 opn], .slice A n cap, .int .i64 k, .agg #[.int .i64 zone, .int .i64 off]] w fun e w' => Gives w w' 42 e n k (act conv soft seq size opn L k zone off) := by
  rcases (show k = 0 ∨ k = 1 ∨ k = 2 ∨ k = 3 ∨ k = 4 ∨ k = 5 ∨ k = 6 by omega) with rfl | rfl | rfl | rfl | rfl | rfl | rfl
  · exact zact0_any conv soft seq size opn zone off A n cap L w hm hn H hns hr hsoft
  · exact zact1_any conv soft seq size opn zone off A n cap L w hn H hns hr
  · exact zact2_any conv soft seq size opn zone off A n cap L w hm hn H hns hr
  · exact zact3_any conv soft seq size opn zone off A n cap L w hm hn H hns hr
  · exact zact4_any conv soft seq size opn zone off A n cap L w hm hn H hns hr
  · exact zact5_any conv soft seq size opn zone off A n cap L w hm hn H hns hr
  · exact zact6_any conv soft seq size opn zone off A n cap L w hm hn H hns hr
end
end Go.Proofs.Ytdcidjbgncbcpaa

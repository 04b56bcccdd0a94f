/-
  Package live: Zone.
-/
import Derived.Test.YtajehmdmgkhkpaaLvC
namespace Go.Proofs.Ytajehmdmgkhkpaa
open Go.RowKit Geom Lv
set_option linter.unusedVariables false

/-- places of one zone in cells -/
def acs (z : Int) (os : List Nat) : List Value := os.flatMap (fun (o : Nat) => [Value.int .i64 z, .int .i64 (o : Int)])
theorem acs_snoc (z : Int) (os : List Nat) (o : Nat) : acs z (os ++ [o]) = acs z os ++ [.int .i64 z, .int .i64 (o : Int)] := by simp [acs]
theorem acs_length (z : Int) (os : List Nat) : (acs z os).length = os.length * 2 := by
  induction os with
  | nil => rfl
  | cons o os ih =>
    have : acs z (o :: os) = [.int .i64 z, .int .i64 (o : Int)] ++ acs z os := rfl
    rw [this, List.length_append, ih]
    simp
    omega
theorem acs_one (z : Int) (os : List Nat) : ∀ u ∈ acs z os, u.oneCell' = true := by
  intro u hu
  obtain ⟨o, _, hu⟩ := List.mem_flatMap.1 hu
  simp at hu
  rcases hu with rfl | rfl <;> rfl
theorem elemAt : Elem Try.prog 45 50 (.agg #[.int .i64 0, .int .i64 0]) 2 16 := .of Try.underlying45 (by kernel_rfl) rfl (by omega)
theorem sectors_bd {conv soft seq size z : Int} (H : Some conv seq size) (hs : 0 ≤ soft ∧ soft ≤ 65536) : 0 ≤ sectors conv soft seq size z ∧ sectors conv soft seq size z ≤ 65536 := by
  obtain ⟨q1, q2, q3, q4, q5⟩ := H
  unfold sectors
  split
  · omega
  · split <;> omega
/-- the live sectors of a zone -/
abbrev zos (conv soft seq size : Int) (l : List (Int × Int)) (z : Int) : List Nat := zo conv seq size l z (sectors conv soft seq size z).toNat
set_option maxRecDepth 100000 in
set_option maxHeartbeats 1000000 in
theorem lvzone_any {d b c m : Nat} {conv soft seq size opn : Int} {l : List (Int × Int)} (w : World) (z : Int) (hz : W64 z) (hs : 0 ≤ soft ∧ soft ≤ 65536) (t : LvIs w d b c m conv soft seq size opn l) :
    Calls Try.prog 18 #[lvp d, .int .i64 z] w fun e w' => ∃ V, e = .returned V ∧ w'.ownsRow w.heap.size 50 2 V (zos conv soft seq size l z).length (acs z (zos conv soft seq size l z)) ∧ Below w.heap.size w w' := by
  have HA := Lib.hid fun w => sectors_any conv soft seq size opn z w t.ok
  have hsb := sectors_bd (z := z) t.ok hs
  obtain ⟨c0, c1, c2, c3, c4⟩ := t.geo
  have T := Lib.hid t
  unfold zos
  clear t
  generalize sectors conv soft seq size z = s at *
  obtain ⟨S, rfl⟩ : ∃ S : Nat, s = (S : Int) := ⟨s.toNat, by omega⟩
  rw [Int.toNat_natCast]
  have hS : S ≤ 65536 := by omega
  clear hsb
  have HZ := Lib.hid hz
  clear hz hs
  go_enter Try.func18, Try.ntmps18
  go_wp2_with fail
  refine (HA.out _).mono ?_
  rintro e w1 ⟨rfl, hb1⟩
  have B1 := Lib.hid hb1
  clear c0 c1 c2 c3 c4 hb1
  go_wp2
  go_loopw [5, 14] (fun o i wr => ∃ k : Nat, k ≤ S ∧ i = .int .i64 k ∧ wr.ownsRow w.heap.size 50 2 o (zo conv seq size l z k).length (acs z (zo conv seq size l z k)) ∧ Below w.heap.size w wr) (fun _ i _ => S - (intOf i).toNat)
  case atStart => exact ⟨0, by omega, rfl, World.ownsRow_nil _ _ _ _, B1.out⟩
  case round =>
    obtain ⟨k, hk, rfl, hown, hbl⟩ := hrel
    by_cases hlt : k < S
    · have hki : (k : Int) < (S : Int) := by omega
      have hql := zo_le (conv := conv) (seq := seq) (size := size) (l := l) z k
      have HH := Lib.hid fun w' (t' : LvIs w' d b c m conv soft seq size opn l) => lvhas_any w' (z, (k : Int)) HZ.out (w64_of (by omega) (by omega)) t'
      cases hb : (pv conv seq size l (z, (k : Int))).isSome
      · rw [hb] at HH
        have HF := Lib.hid (zo_no hb)
        have HO := Lib.hid (And.intro hown hbl)
        clear hown hbl hb hql
        go_wp2_with fail
        refine (HH.out _ (T.out.on ((HO.out.2).alloc HO.out.2.size _))).mono ?_
        rintro e w2 ⟨rfl, hb2⟩
        have HO2 : Hid (w2.ownsRow w.heap.size 50 2 u5 (zo conv seq size l z k).length (acs z (zo conv seq size l z k)) ∧ Below w.heap.size w w2) := Lib.hid ⟨own_below (HO.out.1.alloc _) hb2, bthen (HO.out.2.alloc HO.out.2.size _) hb2⟩
        clear hb2
        go_wp2
        go_roundw
        case rel => exact ⟨k + 1, by omega, by go_num, by rw [HF.out]; exact HO2.out.1, HO2.out.2⟩
        case measure => first | (simp [intOf]; done) | (simp [intOf]; omega)
      · rw [hb] at HH
        have HF := Lib.hid (zo_yes hb)
        have HO := Lib.hid (And.intro hown hbl)
        have HQ := Lib.hid hql
        clear hown hbl hb hql
        go_wp2_with fail
        have hx := LiesAt.new wr z k 50 (0, 0)
        refine (HH.out _ (T.out.on ((HO.out.2).alloc HO.out.2.size _))).mono ?_
        rintro e w2 ⟨rfl, hb2⟩
        have hown : w2.ownsRow w.heap.size 50 2 u5 (zo conv seq size l z k).length (acs z (zo conv seq size l z k)) := own_below (HO.out.1.alloc _) hb2
        have hbl : Below w.heap.size w w2 := bthen (HO.out.2.alloc HO.out.2.size _) hb2
        obtain ⟨a0, a1, hlt2⟩ := hx.below hb2
        have hsz' := hbl.size
        clear hb2 hx HO hlt2
        go_wp2_with (at_builtin; go_loud (refine wpList_append_new _ rfl _ _ _ rfl w.heap.size 50 _ 2 16 elemAt u5 (zo conv seq size l z k).length _ rfl [.int .i64 z, .int .i64 (k : Int)] rfl hown rfl (by simp [Value.oneCell']) (by have := HQ.out; simp only [maxLen]; omega) (by have := HQ.out; omega) hsz' ?_); intro v1 w3 hown1 hg1; have HO := Lib.hid (And.intro hown1 (hbl.grown hg1 hsz' fun g hg => (hown.lt g hg).1)); clear hown1 hg1)
        go_roundw
        case rel =>
          refine ⟨k + 1, by omega, by go_num, ?_, HO.out.2⟩
          rw [HF.out, List.length_append, acs_snoc]
          exact HO.out.1
        case measure => first | (simp [intOf]; done) | (simp [intOf]; omega)
    · obtain rfl : S = k := by omega
      have HO := Lib.hid (And.intro hown hbl)
      clear hown hbl
      go_wp2
      go_ret
      exact ⟨_, rfl, HO.out.1, HO.out.2⟩
end Go.Proofs.Ytajehmdmgkhkpaa

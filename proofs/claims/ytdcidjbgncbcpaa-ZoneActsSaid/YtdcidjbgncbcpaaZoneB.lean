/-
  The document's answer for what is asked: all ways; the walk of the law ZoneActs.
-/
import Derived.Test.YtdcidjbgncbcpaaZoneZ
namespace Go.Proofs.Ytdcidjbgncbcpaa
open Go.RowKit Geom Zone
set_option linter.unusedVariables false

theorem pow_take {L : List Z} {k : Nat} {z : Z} (h : L[k]? = some z) : zc ((L.map pow).take (k + 1)) = zc ((L.map pow).take k) ++ [.int .i64 (pow z).1, .int .i64 (pow z).2] := by
  rw [take_succ (z := pow z) (by rw [List.getElem?_map, h]; rfl), zc_append]
  rfl

set_option maxRecDepth 100000 in
set_option maxHeartbeats 2000000 in
theorem ract_power (conv soft seq size opn zone off : Int) (A : Option Addr) (n cap : Nat) (L : List Z) (w : World) (hm : n ≤ 1000) (hn : L.length = n) (h0 : 0 < n) (hr : Rd w w.heap.size A (zc L)) :
    Calls Try.prog 16 #[.agg #[.int .i64 conv, .int .i64 soft, .int .i64 seq, .int .i64 size, .int .i64 opn], .slice A n cap, .int .i64 6, .agg #[.int .i64 zone, .int .i64 off]] w fun e w' => GivesR w w' e n (act conv soft seq size opn L 6 zone off) := by
  have H0 := Lib.hid (Two.new w conv soft seq size opn zone off 23 26)
  rw [act_6]
  have HN := Lib.hid hn
  clear hn
  go_enter Try.func16, Try.ntmps16
  go_wp2_with fail
  generalize World.alloc _ _ = w0 at H0 ⊢
  have R0 := Lib.hid (hr.one H0.out.one)
  clear hr
  go_loopw [10, 11] (fun v i wr => ∃ k : Nat, k ≤ n ∧ i = .int .i64 k ∧ wr.ownsRow w0.heap.size 42 2 v k (zc ((L.map pow).take k)) ∧ Below w0.heap.size w0 wr) (fun _ i _ => n - (intOf i).toNat)
  case atStart => exact ⟨0, by omega, rfl, World.ownsRow_nil _ _ _ _, Below.refl _ _⟩
  case round =>
    obtain ⟨k, hk, rfl, hown, hbl⟩ := hrel
    by_cases hkn : k < n
    · have hz := getD_of (L := L) (k := k) (d := (0, 0)) (by rw [HN.out]; exact hkn)
      obtain ⟨ad, rfl, _, e0, e1⟩ := (R0.out.below hbl).zone hz
      generalize L.getD k (0, 0) = z at *
      obtain ⟨s, p⟩ := z
      have HP := Lib.hid (pow_take hz)
      have hbl := Lib.hid hbl
      have hown := Lib.hid hown
      clear hz
      dsimp only at e0 e1
      by_cases h1 : s = 1
      · subst h1
        by_cases h2 : p = 0
        · subst h2
          have HE := Lib.hid (show pow (1, 0) = (0, 0) from rfl)
          rw [HE.out] at HP
          go_wp2_with (at_builtin; refine wpList_append_new _ rfl _ _ _ rfl w0.heap.size 42 _ 2 16 elemZ u10 k _ rfl [.int .i64 0, .int .i64 0] (by simp; rfl) (hown.out.alloc _) rfl (fun u hu => zc_one (L := [(0, 0)]) hu) (by simp only [maxLen]; omega) (by omega) (by have := hbl.out.size; simp; omega) ?_; intro v1 w1 hown1 hg1; have Hown1 := Lib.hid hown1; have Hg1 := Lib.hid ((hbl.out.alloc hbl.out.size _).grown hg1 (by have := hbl.out.size; simp; omega) (fun g hg => (hown.out.lt g hg).1)); clear hown1 hg1)
          go_roundw
          case rel => exact ⟨k + 1, by omega, by go_num, by rw [HP.out]; exact Hown1.out, Hg1.out⟩
          case measure => simp [intOf]; omega
        · have hd : (p == 0) = false := by simpa using h2
          have HE := Lib.hid (show pow (1, p) = (2, p) by unfold pow rest; rw [if_pos rfl, if_neg h2])
          rw [HE.out] at HP
          go_wp2_with (at_builtin; refine wpList_append_new _ rfl _ _ _ rfl w0.heap.size 42 _ 2 16 elemZ u10 k _ rfl [.int .i64 2, .int .i64 p] (by simp; rfl) (hown.out.alloc _) rfl (fun u hu => zc_one (L := [(2, p)]) hu) (by simp only [maxLen]; omega) (by omega) (by have := hbl.out.size; simp; omega) ?_; intro v1 w1 hown1 hg1; have Hown1 := Lib.hid hown1; have Hg1 := Lib.hid ((hbl.out.alloc hbl.out.size _).grown hg1 (by have := hbl.out.size; simp; omega) (fun g hg => (hown.out.lt g hg).1)); clear hown1 hg1)
          go_roundw
          case rel => exact ⟨k + 1, by omega, by go_num, by rw [HP.out]; exact Hown1.out, Hg1.out⟩
          case measure => simp [intOf]; omega
      · have hd : (s == 1) = false := by simpa using h1
        have HE := Lib.hid (show pow (s, p) = (s, p) from if_neg h1)
        rw [HE.out] at HP
        go_wp2_with (at_builtin; refine wpList_append_new _ rfl _ _ _ rfl w0.heap.size 42 _ 2 16 elemZ u10 k _ rfl [.int .i64 s, .int .i64 p] (by simp; rfl) (hown.out.alloc _) rfl (fun u hu => zc_one (L := [(s, p)]) hu) (by simp only [maxLen]; omega) (by omega) (by have := hbl.out.size; simp; omega) ?_; intro v1 w1 hown1 hg1; have Hown1 := Lib.hid hown1; have Hg1 := Lib.hid ((hbl.out.alloc hbl.out.size _).grown hg1 (by have := hbl.out.size; simp; omega) (fun g hg => (hown.out.lt g hg).1)); clear hown1 hg1)
        go_roundw
        case rel => exact ⟨k + 1, by omega, by go_num, by rw [HP.out]; exact Hown1.out, Hg1.out⟩
        case measure => simp [intOf]; omega
    · obtain rfl : n = k := by omega
      rw [List.take_of_length_le (by rw [List.length_map, HN.out]; exact Nat.le_refl _)] at hown
      obtain ⟨A', c', hv⟩ := own_slice hown
      subst hv
      have RW := Lib.hid (Rd.own hown)
      have BW := Lib.hid (bthen H0.out.one.2 hbl)
      clear hown
      go_wp2
      go_ret2
      exact ⟨A', c', rfl, RW.out, BW.out⟩

theorem ract_any (conv soft seq size opn zone off : Int) (A : Option Addr) (n cap : Nat) (L : List Z) (w : World) (hm : n ≤ 1000) (hn : L.length = n) (hok : Ok conv soft seq size opn) (hfit : Fit conv seq size opn L) (hr : Rd w w.heap.size A (zc L)) (k : Int) (hk : 0 ≤ k ∧ k < 7) :
    Calls Try.prog 16 #[.agg #[.int .i64 conv, .int .i64 soft, .int .i64 seq, .int .i64 size, .int .i64 opn], .slice A n cap, .int .i64 k, .agg #[.int .i64 zone, .int .i64 off]] w fun e w' => GivesR w w' e n (act conv soft seq size opn L k zone off) := by
  have hns : (n : Int) = conv + seq := by rw [← hn]; exact hfit.1
  have hcv := hok.1
  have hsq := hok.2.1
  by_cases h6 : k = 6
  · subst h6
    exact ract_power conv soft seq size opn zone off A n cap L w hm hn (by omega) hr
  by_cases hh : hasB conv seq zone = true
  rotate_left
  · exact ract_none conv soft seq size opn zone off A n cap L w hok hr k (by omega) (by simpa using hh)
  by_cases hi : (k = 0 ∨ k = 1) ∧ inB conv soft seq size zone off = false
  · exact ract_out conv soft seq size opn zone off A n cap L w hok hr k hi.1 hh hi.2
  obtain ⟨z0, z1⟩ := has_in hh
  obtain ⟨j, rfl⟩ : ∃ j : Nat, zone = (j : Int) := ⟨zone.toNat, by omega⟩
  have hj : j < n := by omega
  obtain ⟨s, p, hz⟩ : ∃ s p, L[j]? = some (s, p) := ⟨(L.getD j (0, 0)).1, (L.getD j (0, 0)).2, getD_of (by omega)⟩
  have hi0 : k = 0 ∨ k = 1 → inB conv soft seq size j off = true := by
    intro h
    cases hb : inB conv soft seq size j off
    · exact absurd ⟨h, hb⟩ hi
    · rfl
  by_cases hc : (j : Int) < conv
  · rcases (show k = 0 ∨ k = 1 ∨ k = 2 ∨ k = 3 ∨ k = 4 ∨ k = 5 by omega) with rfl | rfl | rfl | rfl | rfl | rfl
    · exact ract_soft0 conv soft seq size opn off j A n cap L w hm hn hok hfit hns hj hr s p hz hc (hi0 (.inl rfl))
    · exact ract_soft1 conv soft seq size opn off j A n cap L w hm hn hok hfit hns hj hr s p hz hc (hi0 (.inr rfl))
    · exact ract_soft2 conv soft seq size opn off j A n cap L w hm hn hok hfit hns hj hr s p hz hc
    · exact ract_soft3 conv soft seq size opn off j A n cap L w hm hn hok hfit hns hj hr s p hz hc
    · exact ract_soft4 conv soft seq size opn off j A n cap L w hm hn hok hfit hns hj hr s p hz hc
    · exact ract_soft5 conv soft seq size opn off j A n cap L w hm hn hok hfit hns hj hr s p hz hc
  have hc : conv ≤ (j : Int) := by omega
  rcases (show k = 0 ∨ k = 1 ∨ k = 2 ∨ k = 3 ∨ k = 4 ∨ k = 5 by omega) with rfl | rfl | rfl | rfl | rfl | rfl
  · have hi := hi0 (.inl rfl)
    by_cases h1 : s = 3
    · exact ract_write_full conv soft seq size opn off j A n cap L w hm hn hok hfit hns hj hr s p hz hc hi h1
    by_cases h4 : off = p
    rotate_left
    · exact ract_write_far conv soft seq size opn off j A n cap L w hm hn hok hfit hns hj hr s p hz hc hi h1 h4
    by_cases h2 : s = 1
    · by_cases h6 : off + 1 = size
      · exact ract_write_1_end conv soft seq size opn off j A n cap L w hm hn hok hfit hns hj hr s p hz hc hi h2 h4 h6
      · exact ract_write_1_go conv soft seq size opn off j A n cap L w hm hn hok hfit hns hj hr s p hz hc hi h2 h4 h6
    by_cases h3 : opn ≤ (cnt L : Int)
    · exact ract_write_many conv soft seq size opn off j A n cap L w hm hn hok hfit hns hj hr s p hz hc hi h1 h4 h2 h3
    by_cases h6 : off + 1 = size
    · exact ract_write_0_end conv soft seq size opn off j A n cap L w hm hn hok hfit hns hj hr s p hz hc hi h1 h4 h2 h3 h6
    · exact ract_write_0_go conv soft seq size opn off j A n cap L w hm hn hok hfit hns hj hr s p hz hc hi h1 h4 h2 h3 h6
  · have hi := hi0 (.inr rfl)
    by_cases hp : off < p
    · exact ract_read_yes conv soft seq size opn off j A n cap L w hm hn hok hfit hns hj hr s p hz hc hi hp
    · exact ract_read_no conv soft seq size opn off j A n cap L w hm hn hok hfit hns hj hr s p hz hc hi hp
  · exact ract_reset conv soft seq size opn off j A n cap L w hm hn hok hfit hns hj hr s p hz hc
  · by_cases h1 : s = 3
    · exact ract_finish_no conv soft seq size opn off j A n cap L w hm hn hok hfit hns hj hr s p hz hc h1
    · exact ract_finish conv soft seq size opn off j A n cap L w hm hn hok hfit hns hj hr s p hz hc h1
  · by_cases h1 : s = 3
    · exact ract_open_no conv soft seq size opn off j A n cap L w hm hn hok hfit hns hj hr s p hz hc h1
    by_cases h2 : s = 1
    · exact ract_open_1 conv soft seq size opn off j A n cap L w hm hn hok hfit hns hj hr s p hz hc h2
    by_cases h3 : opn ≤ (cnt L : Int)
    · exact ract_open_full conv soft seq size opn off j A n cap L w hm hn hok hfit hns hj hr s p hz hc h1 h2 h3
    · exact ract_open_go conv soft seq size opn off j A n cap L w hm hn hok hfit hns hj hr s p hz hc h1 h2 h3
  · by_cases h1 : s = 1
    · by_cases h2 : p = 0
      · exact ract_close_0 conv soft seq size opn off j A n cap L w hm hn hok hfit hns hj hr s p hz hc h1 h2
      · exact ract_close_1 conv soft seq size opn off j A n cap L w hm hn hok hfit hns hj hr s p hz hc h1 h2
    · exact ract_close_no conv soft seq size opn off j A n cap L w hm hn hok hfit hns hj hr s p hz hc h1
end Go.Proofs.Ytdcidjbgncbcpaa

/-
  Zones, acts as arguments; the walk of the law ZoneKeeps.
-/
import Derived.Test.YtdcidjbgncbcpaaZoneR
namespace Go.Proofs.Ytdcidjbgncbcpaa
open Go.RowKit Geom Zone
open Go.ChangeShapes Go.WideShapes
set_option linter.unusedVariables false

theorem wf_u8i {x : Int} (h : (Lit.int .u8 x).wf = true) : 0 ≤ x ∧ x ≤ 255 := by
  simpa [Lit.wf, IntKind.min, IntKind.max, IntKind.signed, IntKind.bits] using h
theorem rows_zones {w : World} : ∀ rows : List (List Value), (∀ r ∈ rows, r.length = 2 ∧ Has (.pair 1 (.int .i64) (.pair 1 (.int .i64) .nil)) w r) → ∃ L : List Z, L.length = rows.length ∧ rows.flatten = zc L
  | [], _ => ⟨[], rfl, rfl⟩
  | r :: rows, h => by
    obtain ⟨L, h1, h2⟩ := rows_zones rows fun x hx => h x (List.mem_cons_of_mem _ hx)
    obtain ⟨_, _, _, rfl, _, ⟨s, rfl, _⟩, _, _, rfl, _, ⟨p, rfl, _⟩, rfl⟩ := h r List.mem_cons_self
    exact ⟨(s, p) :: L, by simp [h1], by rw [List.flatten_cons, h2]; rfl⟩
theorem open_zones {H : Type} {enc : TypeId × Value → H} {w : World} {base b0 : Nat} {r : Reach} {sp : Nat → Bool} {held : Bool} {v : Value} {d : DataW H} {ps : List MemPlace}
    (hu : Value.okWide Try.prog w r b0 24 v) (h : DataW.Trod enc Try.prog w base sp held 24 v d ps) :
    ∃ (A : Option Addr) (n cap : Nat) (L : List Z), v = .slice A n cap ∧ n ≤ maxLen ∧ L.length = n ∧ Rd w w.heap.size A (zc L) := by
  obtain ⟨a, len, cap, rfl⟩ := okWide_slice Try.underlying24 hu
  have hs := has_of (s := .slice 2 (.pair 1 (.int .i64) (.pair 1 (.int .i64) .nil))) 4 (by kernel_rfl) h
  obtain ⟨A, n, c, rows, h1, h2, h3, h4, h5, h6⟩ := hs
  obtain ⟨L, h7, h8⟩ := rows_zones rows h6
  have h9 : [Value.slice a len cap] = [.slice A n c] := h1
  obtain ⟨rfl, rfl, rfl⟩ : a = A ∧ len = n ∧ cap = c := by simpa using h9
  exact ⟨a, len, cap, L, rfl, by omega, by omega, by rw [← h8]; exact h5⟩

set_option maxRecDepth 100000 in
set_option maxHeartbeats 4000000 in
theorem law_keeps (conv soft seq size opn zone off kind : Int) (A : Option Addr) (n cap : Nat) (L : List Z) (w : World) (hm : n ≤ maxLen) (hn : L.length = n) (hr : Rd w w.heap.size A (zc L)) (k0 : 0 ≤ kind) (k1 : kind ≤ 255) :
    Calls Try.prog 6 #[.agg #[.int .i64 conv, .int .i64 soft, .int .i64 seq, .int .i64 size, .int .i64 opn], .slice A n cap, .int .u8 kind, .agg #[.int .i64 zone, .int .i64 off]] w fun e w' => e = .returned (.bool true) ∧ Below w.heap.size w w' := by
  have H0 := Lib.hid (Two.new w conv soft seq size opn zone off 23 26)
  have HB := Lib.hid fun w => rright_any conv soft seq size opn w
  by_cases hok : Ok conv soft seq size opn
  rotate_left
  · rw [ok_no hok] at HB
    go_enter Try.func6, Try.ntmps6
    go_wp2_with fail
    generalize World.alloc _ _ = w0 at H0 ⊢
    refine (awake4_any _).mono ?_
    rintro e w1 ⟨rfl, hb⟩
    have H1 := Lib.hid (Two.below H0.out hb)
    obtain ⟨c0, c1, c2, c3, c4, d0, d1, hlt, hbb⟩ := id H1.out
    clear H0 hb
    go_wp2_with fail
    refine (HB.out _).mono ?_
    rintro e w2 ⟨rfl, hb⟩
    have H2 := Lib.hid (Two.below H1.out hb)
    clear H1 hb c0 c1 c2 c3 c4 d0 d1 hlt hbb
    go_wp2_with fail
    refine (awake4_any _).mono ?_
    rintro e w3 ⟨rfl, hb⟩
    have H3 := Lib.hid (Two.below H2.out hb)
    clear H2 hb
    go_wp2
    go_ret
    exact ⟨rfl, H3.out.one.2⟩
  rw [ok_yes hok] at HB
  have HC := Lib.hid fun w' (h : Two w w' conv soft seq size opn zone off) => rzright_any conv soft seq size opn A n cap L w' hm hn hok.some (hr.one h.one)
  by_cases hfit : Fit conv seq size opn L
  rotate_left
  · rw [fit_no hfit] at HC
    go_enter Try.func6, Try.ntmps6
    go_wp2_with fail
    generalize World.alloc _ _ = w0 at H0 ⊢
    refine (awake4_any _).mono ?_
    rintro e w1 ⟨rfl, hb⟩
    have H1 := Lib.hid (Two.below H0.out hb)
    obtain ⟨c0, c1, c2, c3, c4, d0, d1, hlt, hbb⟩ := id H1.out
    clear H0 hb
    go_wp2_with fail
    refine (HB.out _).mono ?_
    rintro e w2 ⟨rfl, hb⟩
    have H2 := Lib.hid (Two.below H1.out hb)
    clear H1 hb c0 c1 c2 c3 c4 d0 d1 hlt hbb
    obtain ⟨c0, c1, c2, c3, c4, d0, d1, hlt, hbb⟩ := id H2.out
    go_wp2_with fail
    refine (HC.out _ H2.out).mono ?_
    rintro e w3 ⟨rfl, hb⟩
    have H3 := Lib.hid (Two.below H2.out hb)
    clear H2 hb c0 c1 c2 c3 c4 d0 d1 hlt hbb
    go_wp2_with fail
    refine (awake4_any _).mono ?_
    rintro e w4 ⟨rfl, hb⟩
    have H4 := Lib.hid (Two.below H3.out hb)
    clear H3 hb
    go_wp2
    go_ret
    exact ⟨rfl, H4.out.one.2⟩
  rw [fit_yes hfit] at HC
  go_enter Try.func6, Try.ntmps6
  go_wp2_with fail
  generalize World.alloc _ _ = w0 at H0 ⊢
  refine (awake4_any _).mono ?_
  rintro e w1 ⟨rfl, hb⟩
  have H1 := Lib.hid (Two.below H0.out hb)
  obtain ⟨c0, c1, c2, c3, c4, d0, d1, hlt, hbb⟩ := id H1.out
  clear H0 hb
  go_wp2_with fail
  refine (HB.out _).mono ?_
  rintro e w2 ⟨rfl, hb⟩
  have H2 := Lib.hid (Two.below H1.out hb)
  clear H1 hb c0 c1 c2 c3 c4 d0 d1 hlt hbb
  obtain ⟨c0, c1, c2, c3, c4, d0, d1, hlt, hbb⟩ := id H2.out
  go_wp2_with fail
  refine (HC.out _ H2.out).mono ?_
  rintro e w3 ⟨rfl, hb⟩
  have H3 := Lib.hid (Two.below H2.out hb)
  clear H2 hb c0 c1 c2 c3 c4 d0 d1 hlt hbb
  have hkk : 0 ≤ kind % 7 ∧ kind % 7 < 7 := by omega
  by_cases h1 : kind % 7 = 1
  · go_wp2
    go_ret
    exact ⟨rfl, H3.out.one.2⟩
  have hd1 : (kind % 7 == 1) = false := by simpa using h1
  have hns := hfit.1
  rw [hn] at hns
  obtain ⟨q1, q2, q3, q4, q5⟩ := hok.some
  have h0 : 0 < n := by omega
  have hn64 : n ≤ 64 := by omega
  have HR3 := Lib.hid (hr.one H3.out.one)
  have HL := Lib.hid (show (zc L).length = n * 2 by rw [zc_length, hn])
  have HA := Lib.hid fun w' (h : Two w w' conv soft seq size opn zone off) => zact_any conv soft seq size opn zone off A n cap L w' (by omega) hn hok.some hns (hr.one h.one) hok.2.2.2.2.2.2.2 (kind % 7) hkk
  have HN := Lib.hid hn
  clear hfit hns hn HB HC hok hr hkk
  go_wp2_with (at_builtin; refine wpList_append_copy _ rfl _ _ _ rfl 42 _ 2 16 elemZ rfl A n cap rfl (zc L) HL.out HR3.out (fun _ => zc_one) (by simp only [maxLen]; omega) (by omega) ?_; intro A4 k4 w4 hown4 hb4; have H4 := Two.below H3.out hb4; have HR4 := Lib.hid ((HR3.out.below hb4).more hb4.size); have HW4 := Lib.hid (Rd.own hown4); obtain ⟨c0, c1, c2, c3, c4, d0, d1, hlt, hbb⟩ := id H4; clear hown4 hb4)
  refine (HA.out _ H4).mono ?_
  rintro e w5 ⟨A5, k5, rfl, _, hown5, hb5⟩
  have hown5 := hown5 h1
  obtain ⟨g, rfl, hgw, hgl⟩ := own_at hown5 h0
  have Hb4 := Lib.hid hbb
  have HS := Lib.hid fun wr (hb : Below w4.heap.size w4 wr) => rsame_any A A4 n cap n k4 L L wr (by simp only [maxLen]; omega) (by simp only [maxLen]; omega) HN.out HN.out w4.heap.size (HR4.out.below hb) (HW4.out.below hb)
  rw [beq_self_eq_true] at HS
  have Hown5 := Lib.hid hown5
  have Hb5 := Lib.hid hb5
  clear c0 c1 c2 c3 c4 d0 d1 hlt hbb hown5 hb5 HA H4
  generalize (act conv soft seq size opn L (kind % 7) zone off).2 = er
  go_wp2_with fail
  go_loopw [13] (fun i wr => ∃ k : Nat, k ≤ n ∧ i = .int .i64 k ∧ (∃ xs, wr.ownsRow w4.heap.size 42 2 (.slice (some ⟨g, 0, none⟩) n k5) n xs) ∧ Below w4.heap.size w4 wr) (fun i _ => n - (intOf i).toNat)
  case atStart => exact ⟨0, by omega, rfl, ⟨_, Hown5.out⟩, Hb5.out⟩
  case round =>
    clear Hown5 Hb5
    obtain ⟨k, hk, rfl, ⟨xs, hown⟩, hbl⟩ := hrel
    have hbl := Lib.hid hbl
    by_cases hlt : k < n
    · have hl := hown.1
      obtain ⟨u, d1⟩ : ∃ u, wr.cell? ⟨g, k * 2 + 1, none⟩ = some u := ⟨_, (hown.cellAt (k * 2 + 1) (by omega)).trans (List.getElem?_eq_getElem (by omega))⟩
      have hf := hown.frozenAt (k * 2 + 1)
      obtain ⟨hown2, hgr⟩ := hown.stored (k * 2 + 1) (.int .i64 (-7))
      have Hown2 := Lib.hid hown2
      have Hb2 := Lib.hid (below_stored hbl.out hgr hbl.out.size hgw)
      clear hown hown2 hgr hl
      go_wp2
      go_roundw
      case rel => exact ⟨k + 1, by omega, by go_num, ⟨_, Hown2.out⟩, Hb2.out⟩
      case measure => simp [intOf]; omega
    · obtain rfl : n = k := by omega
      clear hown
      go_wp2_with fail
      refine (HS.out _ hbl.out).mono ?_
      rintro e w6 ⟨rfl, q, rfl⟩
      go_wp2
      go_ret
      exact ⟨rfl, below_draws (bthen Hb4.out hbl.out) q⟩
end Go.Proofs.Ytdcidjbgncbcpaa

/-
  Layer 11's laws: pools, zones, acts as arguments; the law Opens.
-/
import Derived.Test.YtnpnnejopibjcaaPoW
namespace Go.Proofs.Ytnpnnejopibjcaa
open Go.RowKit Geom Leaf Pol Zone
open Go.ChangeShapes Go.WideShapes
set_option linter.unusedVariables false

theorem open_pool {H : Type} {enc : TypeId × Value → H} {w : World} {base b0 : Nat} {r : Reach} {sp : Nat → Bool} {held : Bool} {v : Value} {d : DataW H} {ps : List MemPlace}
    (hu : Value.okWide Try.prog w r b0 31 v) (h : DataW.Trod enc Try.prog w base sp held 31 v d ps) :
    ∃ (A : Option Addr) (n cap : Nat) (qs : List Int) (h0 h1 h2 : Int), v = ppv A n cap h0 h1 h2 ∧ n ≤ maxLen ∧ n ≤ cap ∧ cap ≤ maxLen ∧ qs.length = n ∧ Rd w w.heap.size A (is qs) ∧ h0 < 9223372036854775808 ∧ h1 < 9223372036854775808 ∧ h2 < 9223372036854775808 := by
  obtain ⟨cs, rfl, hs⟩ := has_agg (s := .pair 1 (.slice 1 (.int .i64)) (.pair 3 (.rep 3 1 (.int .i64)) .nil)) 3 (by kernel_rfl) h hu (.inl ⟨_, Try.underlying31⟩)
  obtain ⟨_, _, rfl, _, hsl, _, _, rfl, _, hd, rfl⟩ := hs
  obtain ⟨A, len, cap, zs, rfl, h1, h2, h3, h4, h5⟩ := has_slice_ints hsl
  obtain ⟨ws, h6, rfl, h7⟩ := has_ints hd
  rcases ws with _ | ⟨x, _ | ⟨y, _ | ⟨z, _ | ⟨t, rr⟩⟩⟩⟩
  · simp at h6
  · simp at h6
  · simp at h6
  · exact ⟨A, len, cap, zs, x, y, z, by simp, by omega, h1, h2, h3, h4, (wf_i64 (h7 x (by simp))).2, (wf_i64 (h7 y (by simp))).2, (wf_i64 (h7 z (by simp))).2⟩
  · simp at h6
theorem rows_pzones {w : World} : ∀ rows : List (List Value), (∀ r ∈ rows, r.length = 2 ∧ Has (.pair 1 (.int .i64) (.pair 1 (.int .i64) .nil)) w r) → ∃ L : List Z, L.length = rows.length ∧ rows.flatten = zc L
  | [], _ => ⟨[], rfl, rfl⟩
  | r :: rows, h => by
    obtain ⟨L, h1, h2⟩ := rows_pzones rows fun x hx => h x (List.mem_cons_of_mem _ hx)
    obtain ⟨_, _, _, rfl, _, ⟨s, rfl, _⟩, _, _, rfl, _, ⟨p, rfl, _⟩, rfl⟩ := h r List.mem_cons_self
    exact ⟨(s, p) :: L, by simp [h1], by rw [List.flatten_cons, h2]; rfl⟩
theorem open_pzones {H : Type} {enc : TypeId × Value → H} {w : World} {base b0 : Nat} {r : Reach} {sp : Nat → Bool} {held : Bool} {v : Value} {d : DataW H} {ps : List MemPlace}
    (hu : Value.okWide Try.prog w r b0 24 v) (h : DataW.Trod enc Try.prog w base sp held 24 v d ps) :
    ∃ (A : Option Addr) (n cap : Nat) (L : List Z), v = .slice A n cap ∧ n ≤ cap ∧ cap ≤ maxLen ∧ L.length = n ∧ Rd w w.heap.size A (zc L) := by
  obtain ⟨a, len, cap, rfl⟩ := okWide_slice Try.underlying24 hu
  have hs := has_of (s := .slice 2 (.pair 1 (.int .i64) (.pair 1 (.int .i64) .nil))) 4 (by kernel_rfl) h
  obtain ⟨A, n, c, rows, h1, h2, h3, h4, h5, h6⟩ := hs
  obtain ⟨L, h7, h8⟩ := rows_pzones rows h6
  have h9 : [Value.slice a len cap] = [.slice A n c] := h1
  obtain ⟨rfl, rfl, rfl⟩ : a = A ∧ len = n ∧ cap = c := by simpa using h9
  exact ⟨a, len, cap, L, rfl, h2, h3, by omega, by rw [← h8]; exact h5⟩
theorem psame_refl (h0 h1 h2 : Int) (ps : List Int) : psame h0 h1 h2 ps h0 h1 h2 ps = true := by simp [psame]
/-- of right zones the points are from 0 to the size -/
theorem fit_U {conv seq size opn : Int} {L : List Z} (S : Some conv seq size) (F : Fit conv seq size opn L) : ∀ (k : Nat) (x : Int), (ptL size (L.drop conv.toNat))[k]? = some x → 0 ≤ x ∧ x ≤ size := by
  obtain ⟨q1, q2, q3, q4, q5⟩ := S
  intro k x hx
  have hk : k < (ptL size (L.drop conv.toNat)).length := by
    rcases Nat.lt_or_ge k (ptL size (L.drop conv.toNat)).length with h | h
    · exact h
    · rw [List.getElem?_eq_none h] at hx; cases hx
  rw [ptL_length, List.length_drop] at hk
  have hz := getD_of (L := L) (k := conv.toNat + k) (d := (0, 0)) (by omega)
  have hf := F.2.2 (conv.toNat + k) (by omega)
  have hU := ptL_at (size := size) (L := L.drop conv.toNat) (k := k) (z := L.getD (conv.toNat + k) (0, 0)) (by rw [List.getElem?_drop]; exact hz)
  rw [List.getD_eq_getElem?_getD, hx] at hU
  rw [fit_hi (by omega)] at hf
  generalize L.getD (conv.toNat + k) (0, 0) = z at hf hU
  simp only [seqB, decide_eq_true_eq] at hf
  have hU' : x = usedI size z.1 z.2 := hU
  unfold usedI at hU'
  by_cases h3 : z.1 = 3
  · rw [if_pos h3] at hU'
    omega
  · rw [if_neg h3] at hU'
    omega

theorem head_lt {conv seq size h0 h1 h2 : Int} {ps : List Int} (h : rightB conv seq size ps h0 h1 h2 = true) (S : Some conv seq size) : h0 < 9223372036854775808 ∧ h1 < 9223372036854775808 ∧ h2 < 9223372036854775808 := by
  have R := right_iff.1 h
  obtain ⟨q1, q2, q3, q4, q5⟩ := S
  have a := R.in0
  have b := R.in1
  have c := R.in2
  omega
set_option maxRecDepth 100000 in
set_option maxHeartbeats 8000000 in
theorem polaw_opens (conv soft seq size opn : Int) (A : Option Addr) (N cap : Nat) (L : List Z) (w : World) (hm : N ≤ cap) (hc : cap ≤ maxLen) (hN : L.length = N) (hr : Rd w w.heap.size A (zc L)) :
    Calls Try.prog 3 #[pgv conv soft seq size opn, .slice A N cap] w fun e w' => e = .returned (.bool true) ∧ Below w.heap.size w w' := by
  have H0 := Lib.hid (One.new w conv soft seq size opn 23)
  have HB := Lib.hid fun w => rright_any conv soft seq size opn w
  by_cases hok : Ok conv soft seq size opn
  rotate_left
  · rw [ok_no hok] at HB
    go_enter Try.func3, Try.ntmps3
    go_wp2_with fail
    generalize World.alloc _ _ = w0 at H0 ⊢
    refine (awake11_any _).mono ?_
    rintro e w1 ⟨rfl, hb⟩
    have H1 := Lib.hid (One.below H0.out hb)
    obtain ⟨c0, c1, c2, c3, c4, cl⟩ := id H1.out.1
    clear H0 hb
    go_wp2_with fail
    refine (HB.out _).mono ?_
    rintro e w2 ⟨rfl, hb⟩
    have H2 := Lib.hid (One.below H1.out hb)
    clear H1 hb c0 c1 c2 c3 c4 cl
    go_wp2_with fail
    refine (awake11_any _).mono ?_
    rintro e w9 ⟨rfl, hb9⟩
    have H9 := Lib.hid (One.below H2.out hb9)
    clear hb9
    go_wp2
    go_ret
    exact ⟨rfl, H9.out.2⟩
  rw [ok_yes hok] at HB
  have HC := Lib.hid fun w' (h : One w w' conv soft seq size opn) => rzright_any conv soft seq size opn A N cap L w' (by omega) hN hok.some (hr.one h)
  by_cases hfit : Fit conv seq size opn L
  rotate_left
  · rw [fit_no hfit] at HC
    go_enter Try.func3, Try.ntmps3
    go_wp2_with fail
    generalize World.alloc _ _ = w0 at H0 ⊢
    refine (awake11_any _).mono ?_
    rintro e w1 ⟨rfl, hb⟩
    have H1 := Lib.hid (One.below H0.out hb)
    obtain ⟨c0, c1, c2, c3, c4, cl⟩ := id H1.out.1
    clear H0 hb
    go_wp2_with fail
    refine (HB.out _).mono ?_
    rintro e w2 ⟨rfl, hb⟩
    have H2 := Lib.hid (One.below H1.out hb)
    clear H1 hb c0 c1 c2 c3 c4 cl
    obtain ⟨c0, c1, c2, c3, c4, cl⟩ := id H2.out.1
    go_wp2_with fail
    refine (HC.out _ H2.out).mono ?_
    rintro e w3 ⟨rfl, hb⟩
    have H3 := Lib.hid (One.below H2.out hb)
    clear H2 hb c0 c1 c2 c3 c4 cl
    go_wp2_with fail
    refine (awake11_any _).mono ?_
    rintro e w9 ⟨rfl, hb9⟩
    have H9 := Lib.hid (One.below H3.out hb9)
    clear hb9
    go_wp2
    go_ret
    exact ⟨rfl, H9.out.2⟩
  rw [fit_yes hfit] at HC
  have hns := hfit.1
  rw [hN] at hns
  obtain ⟨n, hn⟩ : ∃ n : Nat, (n : Int) = seq := ⟨seq.toNat, by have := hok.2.1; omega⟩
  have HP := Lib.hid fun w' (h : One w w' conv soft seq size opn) => popen_any conv soft seq size opn A N cap n L w' hN hok.some hns hn hm (hr.one h)
  have HQ := Lib.hid fun w' (h : One w w' conv soft seq size opn) => rpopen_any conv soft seq size opn A N cap n L w' hN hok.some hns hn (fit_U hok.some hfit) (hr.one h)
  have hUl : (ptL size (L.drop conv.toNat)).length = n := by rw [ptL_length, List.length_drop]; have := hok.1; omega
  have HRi := Lib.hid fun h => right_iff.2 (open_right (U := ptL size (L.drop conv.toNat)) hok.some (by rw [hUl]; exact hn) (fit_U hok.some hfit) h)
  rw [hUl] at HRi
  have HUl := Lib.hid hUl
  have hn64 : n ≤ 64 := by have := hok.2.2.1; have := hok.1; omega
  have HS := Lib.hid hok.some
  clear hUl hr hN hns hm hc hfit hok
  generalize ptL size (L.drop conv.toNat) = U at *
  generalize begX conv size U n = bs at *
  go_enter Try.func3, Try.ntmps3
  go_wp2_with fail
  generalize World.alloc _ _ = w0 at H0 ⊢
  refine (awake11_any _).mono ?_
  rintro e w1 ⟨rfl, hb⟩
  have H1 := Lib.hid (One.below H0.out hb)
  obtain ⟨c0, c1, c2, c3, c4, cl⟩ := id H1.out.1
  clear H0 hb
  go_wp2_with fail
  refine (HB.out _).mono ?_
  rintro e w2 ⟨rfl, hb⟩
  have H2 := Lib.hid (One.below H1.out hb)
  clear H1 hb c0 c1 c2 c3 c4 cl
  obtain ⟨c0, c1, c2, c3, c4, cl⟩ := id H2.out.1
  go_wp2_with fail
  refine (HC.out _ H2.out).mono ?_
  rintro e w3 ⟨rfl, hb⟩
  have H3 := Lib.hid (One.below H2.out hb)
  clear H2 hb c0 c1 c2 c3 c4 cl
  obtain ⟨c0, c1, c2, c3, c4, cl⟩ := id H3.out.1
  go_wp2_with fail
  refine (HP.out _ H3.out).mono ?_
  rintro e w4 (⟨h3, rfl, hb⟩ | ⟨h3, g4, rfl, hown4, hb⟩)
  · have H4 := Lib.hid (One.below H3.out hb)
    have h3' := Lib.hid h3
    clear hb H3 h3 HRi
    go_wp2_with (first
      | ((with_reducible refine wpList_pool_alloc (o := ⟨_, .alloc _, _, _, _, _⟩) rfl rfl ?_); intro w5 x5 hb5 hs5; clear hs5)
      | ((with_reducible refine wpList_pool_store (o := ⟨none, .store _ _ _, _, _, _, _⟩) rfl _ _ rfl _ none none 0 0 0 0 0 0 0 0 0 0 rfl rfl x5 ?_); intro w6 x6 hg6; have hb6 := hb5.grown hg6 hb5.size (fun k hk => by injection hk with hk; omega); have H6 := Lib.hid (One.below H4.out hb6); have X6 := Lib.hid x6; have B6 := Lib.hid hb6; clear x5 x6 hb5 hg6 hb6 c0 c1 c2 c3 c4 cl; obtain ⟨c0, c1, c2, c3, c4, cl⟩ := id H6.out.1)
      | fail)
    refine (HQ.out _ H6.out).mono ?_
    rintro e w7 (⟨_, rfl, hb⟩ | ⟨h3, _⟩)
    rotate_left
    · exact absurd h3'.out (by omega)
    have H7 := Lib.hid (One.below H6.out hb)
    have X7 := Lib.hid (X6.out.on hb)
    clear hb H6 X6 B6
    go_wp2_with (first
      | ((with_reducible refine wpList_pool_alloc (o := ⟨_, .alloc _, _, _, _, _⟩) rfl rfl ?_); intro w8 x8 hb8 hs8; clear hs8)
      | ((with_reducible refine wpList_pool_store (o := ⟨none, .store _ _ _, _, _, _, _⟩) rfl _ _ rfl _ none none 0 0 0 0 0 0 0 0 0 0 rfl rfl x8 ?_); intro w9 x9 hg9; have hb9 := hb8.grown hg9 hb8.size (fun k hk => by injection hk with hk; omega); have H9 := Lib.hid (One.below H7.out hb9); obtain ⟨a0, a1, a2, a3, al⟩ := (X7.out.on hb9).pool; obtain ⟨b0, b1, b2, b3, bl⟩ := x9.pool; clear x8 x9 hb8 hg9 hb9)
      | fail)
    have HSm := Lib.hid (rpsame_any none none 0 0 0 0 0 0 0 0 0 0 [] [] w9 (by simp [maxLen]) (by simp [maxLen]) rfl rfl Rd.empty Rd.empty)
    rw [psame_refl] at HSm
    refine HSm.out.mono ?_
    rintro e w10 ⟨rfl, hb10⟩
    have H10 := Lib.hid (One.below H9.out hb10)
    clear hb10 a0 a1 a2 a3 al b0 b1 b2 b3 bl
    go_wp2
    go_ret
    exact ⟨rfl, H10.out.2⟩
  · have H4 := Lib.hid (One.below H3.out hb)
    have h3' := Lib.hid h3
    have HRi2 := Lib.hid (HRi.out h3)
    have O4 := Lib.hid hown4
    generalize he0 : bs.getD 0 0 = e0 at *
    generalize he1 : bs.getD 1 0 = e1 at *
    generalize he2 : bs.getD 2 0 = e2 at *
    have HE := Lib.hid (And.intro he0 (And.intro he1 he2))
    clear hb H3 h3 HRi hown4 he0 he1 he2
    go_wp2_with (first
      | ((with_reducible refine wpList_pool_alloc (o := ⟨_, .alloc _, _, _, _, _⟩) rfl rfl ?_); intro w5 x5 hb5 hs5; clear hs5)
      | ((with_reducible refine wpList_pool_store (o := ⟨none, .store _ _ _, _, _, _, _⟩) rfl _ _ rfl _ (some ⟨g4, 0, none⟩) none n 0 n 0 e0 e1 e2 0 0 0 rfl rfl x5 ?_); intro w6 x6 hg6; have hb6 := hb5.grown hg6 hb5.size (fun k hk => by injection hk with hk; omega); have H6 := Lib.hid (One.below H4.out hb6); have X6 := Lib.hid x6; have B6 := Lib.hid hb6; clear x5 x6 hb5 hg6 hb6 c0 c1 c2 c3 c4 cl; obtain ⟨c0, c1, c2, c3, c4, cl⟩ := id H6.out.1)
      | fail)
    refine (HQ.out _ H6.out).mono ?_
    rintro e w7 (⟨h3, _⟩ | ⟨_, A7, c7, rfl, hown7, hb⟩)
    · exact absurd h3 (by have := h3'.out; omega)
    have H7 := Lib.hid (One.below H6.out hb)
    have X7 := Lib.hid (X6.out.on hb)
    have O7 := Lib.hid (own_below (own_below O4.out B6.out) hb)
    have P7 := Lib.hid hown7
    clear hb H6 X6 B6 hown7
    go_wp2_with (first
      | ((with_reducible refine wpList_pool_alloc (o := ⟨_, .alloc _, _, _, _, _⟩) rfl rfl ?_); intro w8 x8 hb8 hs8; clear hs8)
      | ((with_reducible refine wpList_pool_store (o := ⟨none, .store _ _ _, _, _, _, _⟩) rfl _ _ rfl _ A7 none n 0 c7 0 e0 e1 e2 0 0 0 rfl rfl x8 ?_); intro w9 x9 hg9; have hb9 := hb8.grown hg9 hb8.size (fun k hk => by injection hk with hk; omega); have H9 := Lib.hid (One.below H7.out hb9); have X9 := Lib.hid (X7.out.on hb9); have O9 := Lib.hid (own_below O7.out hb9); have P9 := Lib.hid (own_below P7.out hb9); obtain ⟨a0, a1, a2, a3, al⟩ := X9.out.pool; obtain ⟨b0, b1, b2, b3, bl⟩ := x9.pool; clear x8 x9 hb8 hg9 hb9)
      | fail)
    have HSm := Lib.hid (rpsame_any (some ⟨g4, 0, none⟩) A7 n n n c7 e0 e1 e2 e0 e1 e2 U U w9 (by simp only [maxLen]; omega) (by simp only [maxLen]; omega) HUl.out HUl.out (Rd.own O9.out) (Rd.own P9.out))
    rw [psame_refl] at HSm
    refine HSm.out.mono ?_
    rintro e w10 ⟨rfl, hb10⟩
    have H10 := Lib.hid (One.below H9.out hb10)
    have X10 := Lib.hid (X9.out.on hb10)
    have O10 := Lib.hid (own_below O9.out hb10)
    clear hb10 a0 a1 a2 a3 al b0 b1 b2 b3 bl c0 c1 c2 c3 c4 cl
    obtain ⟨c0, c1, c2, c3, c4, cl⟩ := id H10.out.1
    obtain ⟨a0, a1, a2, a3, al⟩ := X10.out.pool
    have HPR := Lib.hid (pright_any conv soft seq size opn (some ⟨g4, 0, none⟩) n n U e0 e1 e2 w10 (by simp only [maxLen]; omega) HUl.out HS.out (head_lt HRi2.out HS.out).1 (head_lt HRi2.out HS.out).2.1 (head_lt HRi2.out HS.out).2.2 (Rd.own O10.out))
    rw [HRi2.out] at HPR
    go_wp2_with fail
    refine HPR.out.mono ?_
    rintro e w11 ⟨rfl, hb11⟩
    have H11 := Lib.hid (One.below H10.out hb11)
    clear hb11
    go_wp2
    go_ret
    exact ⟨rfl, H11.out.2⟩
end Go.Proofs.Ytnpnnejopibjcaa

/-
  Acts as an argument; the walk of the law ZoneLegal.
-/
import Derived.Test.YtdcidjbgncbcpaaZoneS
import Derived.Test.YtdcidjbgncbcpaaZoneV
namespace Go.Proofs.Ytdcidjbgncbcpaa
open Go.RowKit Geom Zone
open Go.ChangeShapes Go.WideShapes
set_option linter.unusedVariables false

/-- an act: its kind, its zone, its sector -/
abbrev Ask := Int × Int × Int
def ac : List Ask → List Value
  | [] => []
  | x :: M => .int .u8 x.1 :: .int .i64 x.2.1 :: .int .i64 x.2.2 :: ac M
theorem ac_get : ∀ {M : List Ask} {k : Nat} {x : Ask}, M[k]? = some x → (ac M)[k * 3]? = some (.int .u8 x.1) ∧ (ac M)[k * 3 + 1]? = some (.int .i64 x.2.1) ∧ (ac M)[k * 3 + 2]? = some (.int .i64 x.2.2)
  | [], k, x, h => by simp at h
  | y :: M, 0, x, h => by obtain rfl : y = x := by simpa using h
                          exact ⟨rfl, rfl, rfl⟩
  | y :: M, k + 1, x, h => by
    obtain ⟨h1, h2, h3⟩ := ac_get (M := M) (k := k) (by simpa using h)
    rw [show (k + 1) * 3 + 1 = k * 3 + 1 + 3 by omega, show (k + 1) * 3 + 2 = k * 3 + 2 + 3 by omega, show (k + 1) * 3 = k * 3 + 3 by omega]
    exact ⟨by simpa [ac] using h1, by simpa [ac] using h2, by simpa [ac] using h3⟩
theorem Rd.ask {w : World} {B k : Nat} {A : Option Addr} {M : List Ask} {x : Ask} (h : Rd w B A (ac M)) (hx : M[k]? = some x) :
    ∃ ad, A = some ad ∧ ad.block < B ∧ w.cell? (ad.add (k * 3)) = some (.int .u8 x.1) ∧ w.cell? ⟨(ad.add (k * 3)).block, (ad.add (k * 3)).off + 1, none⟩ = some (.int .i64 x.2.1) ∧ w.cell? ⟨(ad.add (k * 3)).block, (ad.add (k * 3)).off + 1 + 1, none⟩ = some (.int .i64 x.2.2) := by
  obtain ⟨a0, a1, a2⟩ := ac_get hx
  obtain ⟨ad, rfl, hb, hc⟩ := h.at a0
  have e1 : (⟨(ad.add (k * 3)).block, (ad.add (k * 3)).off + 1, none⟩ : Addr) = (ad.add (k * 3)).add 1 := by simp [Addr.add]
  have e2 : (⟨(ad.add (k * 3)).block, (ad.add (k * 3)).off + 1 + 1, none⟩ : Addr) = (ad.add (k * 3)).add 2 := by simp [Addr.add]
  exact ⟨ad, rfl, hb, hc, by rw [e1, addr_add_add]; exact h.tail_at a1, by rw [e2, addr_add_add]; exact h.tail_at a2⟩
theorem rows_acts {w : World} : ∀ rows : List (List Value), (∀ r ∈ rows, r.length = 3 ∧ Has (.pair 1 (.int .u8) (.pair 2 (.pair 1 (.int .i64) (.pair 1 (.int .i64) .nil)) .nil)) w r) → ∃ M : List Ask, M.length = rows.length ∧ rows.flatten = ac M ∧ ∀ x ∈ M, 0 ≤ x.1 ∧ x.1 ≤ 255
  | [], _ => ⟨[], rfl, rfl, by simp⟩
  | r :: rows, h => by
    obtain ⟨M, h1, h2, h3⟩ := rows_acts rows fun x hx => h x (List.mem_cons_of_mem _ hx)
    obtain ⟨_, _, _, rfl, _, ⟨s, rfl, hs⟩, _, _, rfl, _, ⟨_, _, rfl, _, ⟨p, rfl, _⟩, _, _, rfl, _, ⟨q, rfl, _⟩, rfl⟩, rfl⟩ := h r List.mem_cons_self
    refine ⟨(s, p, q) :: M, by simp [h1], by rw [List.flatten_cons, h2]; rfl, fun x hx => ?_⟩
    rcases List.mem_cons.1 hx with rfl | hx
    · exact wf_u8i hs
    · exact h3 x hx
theorem open_acts {H : Type} {enc : TypeId × Value → H} {w : World} {base b0 : Nat} {r : Reach} {sp : Nat → Bool} {held : Bool} {v : Value} {d : DataW H} {ps : List MemPlace}
    (hu : Value.okWide Try.prog w r b0 38 v) (h : DataW.Trod enc Try.prog w base sp held 38 v d ps) :
    ∃ (A : Option Addr) (n cap : Nat) (M : List Ask), v = .slice A n cap ∧ n ≤ maxLen ∧ M.length = n ∧ Rd w w.heap.size A (ac M) ∧ ∀ x ∈ M, 0 ≤ x.1 ∧ x.1 ≤ 255 := by
  obtain ⟨a, len, cap, rfl⟩ := okWide_slice Try.underlying38 hu
  have hs := has_of (s := .slice 3 (.pair 1 (.int .u8) (.pair 2 (.pair 1 (.int .i64) (.pair 1 (.int .i64) .nil)) .nil))) 5 (by kernel_rfl) h
  obtain ⟨A, n, c, rows, h1, h2, h3, h4, h5, h6⟩ := hs
  obtain ⟨M, h7, h8, h10⟩ := rows_acts rows h6
  have h9 : [Value.slice a len cap] = [.slice A n c] := h1
  obtain ⟨rfl, rfl, rfl⟩ : a = A ∧ len = n ∧ cap = c := by simpa using h9
  exact ⟨a, len, cap, M, rfl, by omega, by omega, by rw [← h8]; exact h5, h10⟩

theorem zright_fit {conv soft seq size opn : Int} {A : Option Addr} {n cap : Nat} {L : List Z} {w : World} (hL : Fit conv seq size opn L) (hm : n ≤ maxLen) (hn : L.length = n) (H : Some conv seq size) (hr : Rd w w.heap.size A (zc L)) :
    Calls Try.prog 10 #[.agg #[.int .i64 conv, .int .i64 soft, .int .i64 seq, .int .i64 size, .int .i64 opn], .slice A n cap] w fun e w' => e = .returned (.bool true) ∧ Below w.heap.size w w' := by
  have := zright_any conv soft seq size opn A n cap L w hm hn H hr
  rw [fit_yes hL] at this
  exact this
theorem rsame_self {A A' : Option Addr} {n cap cap' : Nat} {L : List Z} {w : World} (hm : n ≤ maxLen) (hn : L.length = n) (hr : Rd w w.heap.size A (zc L)) (hr' : Rd w w.heap.size A' (zc L)) :
    Calls Try.prog 12 #[.slice A n cap, .slice A' n cap'] w fun e w' => e = .returned (.bool true) ∧ ∃ q, w.drewN q = w' := by
  have := rsame_any A A' n cap n cap' L L w hm hm hn hn w.heap.size hr hr'
  rw [beq_self_eq_true] at this
  exact this

set_option maxRecDepth 100000 in
set_option maxHeartbeats 4000000 in
theorem law_legal (conv soft seq size opn : Int) (A : Option Addr) (n cap : Nat) (M : List Ask) (w : World) (hm : n ≤ maxLen) (hn : M.length = n) (hr : Rd w w.heap.size A (ac M)) (hM : ∀ x ∈ M, 0 ≤ x.1 ∧ x.1 ≤ 255) :
    Calls Try.prog 4 #[.agg #[.int .i64 conv, .int .i64 soft, .int .i64 seq, .int .i64 size, .int .i64 opn], .slice A n cap] w fun e w' => e = .returned (.bool true) ∧ Below w.heap.size w w' := by
  have H0 := Lib.hid (One.new w conv soft seq size opn 23)
  have HB := Lib.hid fun w => rright_any conv soft seq size opn w
  have HMn := Lib.hid hn
  unfold maxLen at hm
  by_cases hok : Ok conv soft seq size opn
  rotate_left
  · rw [ok_no hok] at HB
    go_enter Try.func4, Try.ntmps4
    go_wp2_with fail
    generalize World.alloc _ _ = w0 at H0 ⊢
    refine (awake4_any _).mono ?_
    rintro e w1 ⟨rfl, hb⟩
    have H1 := Lib.hid (One.below H0.out hb)
    obtain ⟨c0, c1, c2, c3, c4, hlt⟩ := id H1.out.1
    clear H0 hb
    go_wp2_with fail
    refine (HB.out _).mono ?_
    rintro e w2 ⟨rfl, hb⟩
    have H2 := Lib.hid (One.below H1.out hb)
    clear H1 hb c0 c1 c2 c3 c4 hlt
    go_wp2_with fail
    refine (awake4_any _).mono ?_
    rintro e w3 ⟨rfl, hb⟩
    have H3 := Lib.hid (One.below H2.out hb)
    clear H2 hb
    go_wp2
    go_ret
    exact ⟨rfl, H3.out.2⟩
  rw [ok_yes hok] at HB
  by_cases hbig : 200 < n
  · go_enter Try.func4, Try.ntmps4
    go_wp2_with fail
    generalize World.alloc _ _ = w0 at H0 ⊢
    refine (awake4_any _).mono ?_
    rintro e w1 ⟨rfl, hb⟩
    have H1 := Lib.hid (One.below H0.out hb)
    obtain ⟨c0, c1, c2, c3, c4, hlt⟩ := id H1.out.1
    clear H0 hb
    go_wp2_with fail
    refine (HB.out _).mono ?_
    rintro e w2 ⟨rfl, hb⟩
    have H2 := Lib.hid (One.below H1.out hb)
    clear H1 hb c0 c1 c2 c3 c4 hlt
    go_wp2_with fail
    refine (awake4_any _).mono ?_
    rintro e w3 ⟨rfl, hb⟩
    have H3 := Lib.hid (One.below H2.out hb)
    clear H2 hb
    go_wp2
    go_ret
    exact ⟨rfl, H3.out.2⟩
  have hsm := hok.some
  have hsoft := hok.2.2.2.2.2.2.2
  obtain ⟨q1, q2, q3, q4, q5⟩ := id hsm
  obtain ⟨nz, hns⟩ : ∃ nz : Nat, (nz : Int) = conv + seq := ⟨(conv + seq).toNat, by omega⟩
  have hcn : conv.toNat ≤ nz := by omega
  have hnz : nz ≤ 64 := by omega
  have HNew := Lib.hid fun w => new_any conv soft seq size opn nz w hok hns
  have HFN := Lib.hid (fit_new (size := size) (opn := opn) hns (by omega) (by omega) (by have := hok.2.2.2.2.2.1; omega))
  have HA := Lib.hid fun (L : List Z) (hL : Fit conv seq size opn L) (k zone off : Int) (hk : 0 ≤ k ∧ k < 7) A cap w hr => zact_any conv soft seq size opn zone off A nz cap L w (by omega) (by have := hL.1; omega) hsm hns hr hsoft k hk
  have HRt := Lib.hid fun (L : List Z) (hL : Fit conv seq size opn L) A cap w hr => zright_fit (soft := soft) (A := A) (cap := cap) (w := w) (n := nz) hL (by simp only [maxLen]; omega) (by have := hL.1; omega) hsm hr
  have HS := Lib.hid fun (L : List Z) (hL : Fit conv seq size opn L) A' c' A'' c'' w' h h2 => rsame_self (A := A') (A' := A'') (cap := c') (cap' := c'') (w := w') (L := L) (n := nz) (by simp only [maxLen]; omega) (by have := hL.1; omega) h h2
  have HMx := Lib.hid hM
  have HR0 := Lib.hid fun w' (h : Below w.heap.size w w') => hr.below h
  have Hns := Lib.hid hns
  clear hok hsm hns hsoft hM hr hn
  go_enter Try.func4, Try.ntmps4
  go_wp2_with fail
  generalize World.alloc _ _ = w0 at H0 ⊢
  refine (awake4_any _).mono ?_
  rintro e w1 ⟨rfl, hb⟩
  have H1 := Lib.hid (One.below H0.out hb)
  obtain ⟨c0, c1, c2, c3, c4, hlt⟩ := id H1.out.1
  clear H0 hb
  go_wp2_with fail
  refine (HB.out _).mono ?_
  rintro e w2 ⟨rfl, hb⟩
  have H2 := Lib.hid (One.below H1.out hb)
  clear H1 hb c0 c1 c2 c3 c4 hlt
  obtain ⟨c0, c1, c2, c3, c4, hlt⟩ := id H2.out.1
  go_wp2_with fail
  refine (HNew.out _).mono ?_
  rintro e w3 ⟨g, rfl, hown, hb⟩
  have H3 := Lib.hid (One.below H2.out hb)
  have R3 := Lib.hid (Rd.own hown)
  clear H2 hb c0 c1 c2 c3 c4 hlt hown HB HNew
  go_wp2_with fail
  go_loopw [5, 6] (fun l i wr => ∃ k : Nat, k ≤ n ∧ i = .int .i64 k ∧ (∃ A c L, l = .slice A nz c ∧ Fit conv seq size opn L ∧ Rd wr wr.heap.size A (zc L)) ∧ One w wr conv soft seq size opn) (fun _ i _ => n - (intOf i).toNat)
  case atStart => exact ⟨0, by omega, rfl, ⟨some ⟨g, 0, none⟩, nz, _, rfl, HFN.out, R3.out⟩, H3.out⟩
  case round =>
    clear H3 R3 HFN
    obtain ⟨k, hk, rfl, ⟨Al, cl, L, rfl, hfit, hrl⟩, hx⟩ := hrel
    have Hfit := Lib.hid hfit
    have Rl := Lib.hid hrl
    have Hx := Lib.hid hx
    clear hfit hrl hx
    by_cases hkn : k < n
    rotate_left
    · go_wp2
      go_ret
      exact ⟨rfl, Hx.out.2⟩
    have hxk : M[k]? = some (M.getD k (0, 0, 0)) := by rw [List.getD_eq_getElem?_getD, List.getElem?_eq_getElem (by rw [HMn.out]; exact hkn)]; rfl
    have hx0 := HMx.out _ (List.mem_of_getElem? hxk)
    generalize M.getD k (0, 0, 0) = x at hxk hx0
    obtain ⟨kd, zn, of⟩ := x
    obtain ⟨kd0, kd1⟩ := hx0
    have hkd : 0 ≤ kd % 7 ∧ kd % 7 < 7 := by omega
    have hR := HR0.out _ Hx.out.2
    obtain ⟨ad, rfl, hadb, b0, b1, b2⟩ := hR.ask hxk
    have HSO := Lib.hid fun w' (h : Below w.heap.size w w') => (HR0.out _ h).ask hxk
    dsimp only at kd0 kd1 b0 b1 b2
    have HAk := Lib.hid fun A cap w hr => HA.out L Hfit.out (kd % 7) zn of hkd A cap w hr
    have HFit := Lib.hid (act_fit (soft := soft) (k := kd % 7) (zone := zn) (off := of) q4 Hfit.out)
    have HErr := Lib.hid (act_err (soft := soft) (size := size) (opn := opn) (k := kd % 7) (zone := zn) (off := of) Hfit.out.1)
    have HPt := Lib.hid fun j z z' h h' => act_point (soft := soft) (size := size) (opn := opn) (k := kd % 7) (zone := zn) (off := of) Hfit.out (j := j) (z := z) (z' := z') h h'
    generalize act conv soft seq size opn L (kd % 7) zn of = r at HAk HFit HErr HPt
    obtain ⟨L', er⟩ := r
    dsimp only at HErr HPt HFit
    have hkI : (k : Int) < (n : Int) := by omega
    obtain ⟨c0, c1, c2, c3, c4, hlt⟩ := id Hx.out.1
    clear hxk hR hadb
    go_wp2_with fail
    have SO := Lib.hid fun w' (h : Below wr.heap.size wr w') => (⟨(Hx.out.below h).1.1, (Hx.out.below h).1.2.1, (Hx.out.below h).1.2.2.1, (Hx.out.below h).1.2.2.2.1, (Hx.out.below h).1.2.2.2.2.1, by
        obtain ⟨ad2, h1, _, _, h3, _⟩ := HSO.out _ (Hx.out.below h).2
        injection h1 with h1
        subst h1
        exact h3, by
        obtain ⟨ad2, h1, _, _, _, h3⟩ := HSO.out _ (Hx.out.below h).2
        injection h1 with h1
        subst h1
        exact h3⟩ :
      w'.cell? ⟨w.heap.size, 0, none⟩ = some (.int .i64 conv) ∧ w'.cell? ⟨w.heap.size, 1, none⟩ = some (.int .i64 soft) ∧ w'.cell? ⟨w.heap.size, 2, none⟩ = some (.int .i64 seq) ∧ w'.cell? ⟨w.heap.size, 3, none⟩ = some (.int .i64 size) ∧ w'.cell? ⟨w.heap.size, 4, none⟩ = some (.int .i64 opn) ∧
      w'.cell? ⟨(ad.add (k * 3)).block, (ad.add (k * 3)).off + 1, none⟩ = some (.int .i64 zn) ∧ w'.cell? ⟨(ad.add (k * 3)).block, (ad.add (k * 3)).off + 1 + 1, none⟩ = some (.int .i64 of))
    first | go_region_held3 (fun w' => w'.cell? ⟨w.heap.size, 0, none⟩ = some (.int .i64 conv) ∧ w'.cell? ⟨w.heap.size, 1, none⟩ = some (.int .i64 soft) ∧ w'.cell? ⟨w.heap.size, 2, none⟩ = some (.int .i64 seq) ∧ w'.cell? ⟨w.heap.size, 3, none⟩ = some (.int .i64 size) ∧ w'.cell? ⟨w.heap.size, 4, none⟩ = some (.int .i64 opn) ∧
        w'.cell? ⟨(ad.add (k * 3)).block, (ad.add (k * 3)).off + 1, none⟩ = some (.int .i64 zn) ∧ w'.cell? ⟨(ad.add (k * 3)).block, (ad.add (k * 3)).off + 1 + 1, none⟩ = some (.int .i64 of))
      (first | exact SO.out _ B5 | exact SO.out _ (Below.refl _ _).drew)
      ((first
        | ((with_reducible refine (HAk.out _ _ _ Rl.out.drew).mono ?_); rintro e w5 ⟨A5, c5, rfl, hr5, _, hb5⟩; have B5 : Below wr.heap.size wr w5 := bthen (Below.refl _ _).drew hb5))) | fail
    all_goals
      have H5 := Lib.hid (One.below Hx.out B5)
      have R5l := Lib.hid ((Rl.out.below B5).more B5.size)
      have R5m := Lib.hid hr5
      clear b0 b1 b2 c0 c1 c2 c3 c4 hlt SO hb5 B5 hr5 Rl Hx HAk HA
      obtain ⟨c0, c1, c2, c3, c4, hlt⟩ := id H5.out.1
      go_wp2_with fail
      refine (HRt.out L' HFit.out _ _ _ R5m.out).mono ?_
      rintro e w7 ⟨rfl, hb⟩
      have H7p := One.below H5.out hb
      have R7lp := (R5l.out.below hb).more hb.size
      have R7mp := (R5m.out.below hb).more hb.size
      clear c0 c1 c2 c3 c4 hlt hb H5 R5l R5m
      by_cases he : er = 0
      · subst he
        have H7 := Lib.hid H7p
        have R7l := Lib.hid R7lp
        have R7m := Lib.hid R7mp
        clear H7p R7lp R7mp
        obtain ⟨ad2, hA2, _, _, b1', _⟩ := HSO.out _ H7.out.2
        obtain rfl : ad = ad2 := by injection hA2
        clear hA2
        go_wp2_with fail
        go_loopw [10] (fun z wq => ∃ j : Nat, j ≤ nz ∧ z = .int .i64 j ∧ ∃ q, w7.drewN q = wq) (fun z _ => nz - (intOf z).toNat)
        case atStart => exact ⟨0, by omega, rfl, 0, rfl⟩
        case round =>
          obtain ⟨j, hj, rfl, q, rfl⟩ := hrel
          by_cases hjn : j < nz
          · have hzl := getD_of (L := L) (k := j) (d := (0, 0)) (by have := Hfit.out.1; have := Hns.out; omega)
            have hzm := getD_of (L := L') (k := j) (d := (0, 0)) (by have := HFit.out.1; have := Hns.out; omega)
            obtain ⟨adl, rfl, _, _, e1⟩ := R7l.out.zone hzl
            obtain ⟨adm, rfl, _, _, f1⟩ := R7m.out.zone hzm
            obtain ⟨p1, p2, p3⟩ := HPt.out j _ _ hzl hzm
            obtain ⟨x1, x2⟩ := fit_point Hfit.out q4 hzl
            obtain ⟨y1, y2⟩ := fit_point HFit.out q4 hzm
            generalize (L.getD j (0, 0)).2 = pl at *
            generalize (L'.getD j (0, 0)).2 = pm at *
            have hjI : (j : Int) < (nz : Int) := by omega
            have hw := IntWalk.i64_in (pm - pl) (by omega)
            clear hzl hzm
            rcases (show pm - pl = 1 ∨ pm - pl < 0 ∨ pm - pl = 0 by omega) with g1 | g1 | g1
            · obtain ⟨g2, g3⟩ := p2 g1
              subst g3
              have g2b : (kd % 7 != 0) = false := by rw [g2]; rfl
              clear g2
              clear p1 p2 p3
              have hw2 : IntKind.i64.wrap (pm - pl) = 1 := hw.trans g1
              clear hw
              go_wp2
              go_quiet (fail)
              go_wp2
              go_roundw
              case rel => exact ⟨j + 1, by omega, by go_num, _, rfl⟩
              case measure => simp [intOf]; omega
            · obtain ⟨g2, g3⟩ := p3 g1
              subst g3
              have g2b : (kd % 7 != 2) = false := by rw [g2]; rfl
              clear g2
              clear p1 p2 p3
              obtain ⟨d, hd⟩ : ∃ d, pm - pl = d := ⟨_, rfl⟩
              have hw2 : IntKind.i64.wrap (pm - pl) = d := hw.trans hd
              have hd0 : d < 0 := by omega
              have n1 : ¬ 1 < d := by omega
              have n2 : (d == 1) = false := by simp; omega
              clear hw g1 hd
              go_wp2
              go_quiet (fail)
              go_wp2
              go_roundw
              case rel => exact ⟨j + 1, by omega, by go_num, _, rfl⟩
              case measure => simp [intOf]; omega
            · clear p1 p2 p3
              have hw2 : IntKind.i64.wrap (pm - pl) = 0 := hw.trans g1
              clear hw
              go_wp2
              go_quiet (fail)
              go_wp2
              go_roundw
              case rel => exact ⟨j + 1, by omega, by go_num, _, rfl⟩
              case measure => simp [intOf]; omega
          · obtain rfl : nz = j := by omega
            go_wp2
            go_roundw
            case rel => exact ⟨k + 1, by omega, by go_num, ⟨A5, c5, L', rfl, HFit.out, R7m.out.drewN q⟩, ⟨H7.out.1, below_draws H7.out.2 q⟩⟩
            case measure => simp [intOf]; omega
      · have hL := HErr.out he
        have hed : (er != 0) = true := by simpa using he
        go_wp2_with fail
        refine (HS.out L Hfit.out _ _ _ _ _ R7lp (hL ▸ R7mp)).mono ?_
        rintro e w8 ⟨rfl, q8, rfl⟩
        replace H7p : One w (w7.drewN q8) conv soft seq size opn := ⟨H7p.1, below_draws H7p.2 q8⟩
        replace R7lp : Rd (w7.drewN q8) (w7.drewN q8).heap.size Al (zc L) := R7lp
        replace R7mp : Rd (w7.drewN q8) (w7.drewN q8).heap.size A5 (zc L') := R7mp
        clear hL
        generalize w7.drewN q8 = w7 at H7p R7lp R7mp ⊢
        have H7 := Lib.hid H7p
        have R7l := Lib.hid R7lp
        have R7m := Lib.hid R7mp
        clear H7p R7lp R7mp
        obtain ⟨ad2, hA2, _, _, b1', _⟩ := HSO.out _ H7.out.2
        obtain rfl : ad = ad2 := by injection hA2
        clear hA2
        go_wp2_with fail
        go_loopw [10] (fun z wq => ∃ j : Nat, j ≤ nz ∧ z = .int .i64 j ∧ ∃ q, w7.drewN q = wq) (fun z _ => nz - (intOf z).toNat)
        case atStart => exact ⟨0, by omega, rfl, 0, rfl⟩
        case round =>
          obtain ⟨j, hj, rfl, q, rfl⟩ := hrel
          by_cases hjn : j < nz
          · have hzl := getD_of (L := L) (k := j) (d := (0, 0)) (by have := Hfit.out.1; have := Hns.out; omega)
            have hzm := getD_of (L := L') (k := j) (d := (0, 0)) (by have := HFit.out.1; have := Hns.out; omega)
            obtain ⟨adl, rfl, _, _, e1⟩ := R7l.out.zone hzl
            obtain ⟨adm, rfl, _, _, f1⟩ := R7m.out.zone hzm
            obtain ⟨p1, p2, p3⟩ := HPt.out j _ _ hzl hzm
            obtain ⟨x1, x2⟩ := fit_point Hfit.out q4 hzl
            obtain ⟨y1, y2⟩ := fit_point HFit.out q4 hzm
            generalize (L.getD j (0, 0)).2 = pl at *
            generalize (L'.getD j (0, 0)).2 = pm at *
            have hjI : (j : Int) < (nz : Int) := by omega
            have hw := IntWalk.i64_in (pm - pl) (by omega)
            clear hzl hzm
            rcases (show pm - pl = 1 ∨ pm - pl < 0 ∨ pm - pl = 0 by omega) with g1 | g1 | g1
            · obtain ⟨g2, g3⟩ := p2 g1
              subst g3
              have g2b : (kd % 7 != 0) = false := by rw [g2]; rfl
              clear g2
              clear p1 p2 p3
              have hw2 : IntKind.i64.wrap (pm - pl) = 1 := hw.trans g1
              clear hw
              go_wp2
              go_quiet (fail)
              go_wp2
              go_roundw
              case rel => exact ⟨j + 1, by omega, by go_num, _, rfl⟩
              case measure => simp [intOf]; omega
            · obtain ⟨g2, g3⟩ := p3 g1
              subst g3
              have g2b : (kd % 7 != 2) = false := by rw [g2]; rfl
              clear g2
              clear p1 p2 p3
              obtain ⟨d, hd⟩ : ∃ d, pm - pl = d := ⟨_, rfl⟩
              have hw2 : IntKind.i64.wrap (pm - pl) = d := hw.trans hd
              have hd0 : d < 0 := by omega
              have n1 : ¬ 1 < d := by omega
              have n2 : (d == 1) = false := by simp; omega
              clear hw g1 hd
              go_wp2
              go_quiet (fail)
              go_wp2
              go_roundw
              case rel => exact ⟨j + 1, by omega, by go_num, _, rfl⟩
              case measure => simp [intOf]; omega
            · clear p1 p2 p3
              have hw2 : IntKind.i64.wrap (pm - pl) = 0 := hw.trans g1
              clear hw
              go_wp2
              go_quiet (fail)
              go_wp2
              go_roundw
              case rel => exact ⟨j + 1, by omega, by go_num, _, rfl⟩
              case measure => simp [intOf]; omega
          · obtain rfl : nz = j := by omega
            go_wp2
            go_roundw
            case rel => exact ⟨k + 1, by omega, by go_num, ⟨A5, c5, L', rfl, HFit.out, R7m.out.drewN q⟩, ⟨H7.out.1, below_draws H7.out.2 q⟩⟩
            case measure => simp [intOf]; omega
end Go.Proofs.Ytdcidjbgncbcpaa

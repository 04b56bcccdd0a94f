/-
  The document's answer for layer 16: Best.
-/
import Derived.Test.YtndjjgabfmplcaaPiE
namespace Go.Proofs.Ytndjjgabfmplcaa
open Go.RowKit Pick
set_option linter.unusedVariables false

theorem cand_all {w : World} {A : Option Addr} {l : List Cd} {k : Nat} {x : Cd} (h : Rd w w.heap.size A (kls l)) (hk : l[k]? = some x) :
    ∃ ad, A = some ad ∧ ∀ w', Below w.heap.size w w' → w'.cell? (ad.add (k * 3)) = some (.int .i64 x.z) ∧ w'.cell? ⟨(ad.add (k * 3)).block, (ad.add (k * 3)).off + 1, none⟩ = some (.int .i64 x.l) ∧ w'.cell? ⟨(ad.add (k * 3)).block, (ad.add (k * 3)).off + 2, none⟩ = some (.int .i64 x.a) := by
  obtain ⟨ad, rfl, hb, c0, c1, c2⟩ := cand_at h hk
  have hb2 : (ad.add (k * 3)).block < w.heap.size := by rw [addr_add_block]; exact hb
  exact ⟨ad, rfl, fun w' hw => ⟨(hw.cell hb2).trans c0, (hw.cell (p := ⟨_, _, none⟩) hb2).trans c1, (hw.cell (p := ⟨_, _, none⟩) hb2).trans c2⟩⟩
/-- none of the first m is better than c, which may be chosen -/
def Pick.Upto (s p : Int) (l : List Cd) (c : Cd) (m : Nat) : Prop := Okc s c ∧ ∀ x ∈ l.take m, Okc s x → ¬ Bet s p x c
/-- a truth tells of something -/
def Pick.Tell (b : Bool) (P : Prop) : Prop := b = true ∧ P ∨ b = false ∧ ¬ P
theorem upto_next {s p : Int} {l : List Cd} {c x : Cd} {m : Nat} (hx : l[m]? = some x) : Upto s p l c (m + 1) ↔ Upto s p l c m ∧ (Okc s x → ¬ Bet s p x c) := by
  obtain ⟨hk, rfl⟩ := List.getElem?_eq_some_iff.1 hx
  unfold Upto
  rw [List.take_succ_eq_append_getElem hk]
  constructor
  · rintro ⟨h1, h2⟩
    exact ⟨⟨h1, fun y hy => h2 y (List.mem_append_left _ hy)⟩, h2 _ (List.mem_append_right _ (List.mem_singleton.2 rfl))⟩
  · rintro ⟨⟨h1, h2⟩, h3⟩
    refine ⟨h1, fun y hy => ?_⟩
    rcases List.mem_append.1 hy with hy | hy
    · exact h2 y hy
    · rw [List.mem_singleton.1 hy]; exact h3
set_option maxRecDepth 100000 in
set_option maxHeartbeats 40000000 in
theorem rbest_any (s p : Int) (A : Option Addr) (n cap : Nat) (l : List Cd) (w : World) (hs : Size s) (hl : l.length = n) (hm : n ≤ maxLen) (ha : ∀ x ∈ l, Aged x) (hr : Rd w w.heap.size A (kls l)) :
    Calls Try.prog 14 #[.slice A n cap, .int .i64 s, .int .i64 p] w fun e w' => ∃ o, Best s p l o ∧ e = .returned (.tuple #[.int .i64 (zn o), .bool o.isSome]) ∧ Below w.heap.size w w' := by
  have HL := Lib.hid (And.intro hs (And.intro hl ha))
  have HR := Lib.hid hr
  unfold maxLen at hm
  clear hs hl ha hr
  go_enter Try.func14, Try.ntmps14
  go_wp2
  go_loopw [8] (fun i wr => ∃ k : Nat, k ≤ n ∧ i = .int .i64 k ∧ (∀ x ∈ l.take k, ¬ Top s p l x) ∧ Below w.heap.size w wr) (fun i _ => n - (intOf i).toNat)
  case atStart => exact ⟨0, by omega, rfl, by simp, Below.refl _ _⟩
  case round =>
    obtain ⟨k, hk, rfl, hno, hbl⟩ := hrel
    have HN := Lib.hid hno
    have HB := Lib.hid hbl
    clear hno hbl
    by_cases hlt : k < n
    · have hkl : k < l.length := by rw [HL.out.2.1]; exact hlt
      obtain ⟨c, hc⟩ : ∃ c, l[k]? = some c := ⟨_, List.getElem?_eq_getElem hkl⟩
      obtain ⟨ad, rfl, hall⟩ := cand_all HR.out hc
      have HA := Lib.hid hall
      have HX := Lib.hid (show l.take (k + 1) = l.take k ++ [c] by
        obtain ⟨hk, rfl⟩ := List.getElem?_eq_some_iff.1 hc
        exact List.take_succ_eq_append_getElem hk)
      have HC := Lib.hid (And.intro (List.mem_of_getElem? hc) (HL.out.2.2 c (List.mem_of_getElem? hc)))
      obtain ⟨cz, cl, ca⟩ := c
      obtain ⟨c0, c1, c2⟩ := hall wr HB.out
      simp only at c0 c1 c2
      have hki : (k : Int) < (n : Int) := by omega
      clear hc hkl hall
      by_cases h1 : 0 ≤ cl
      · by_cases h2 : cl < s
        · have HO := Lib.hid (show Okc s ⟨cz, cl, ca⟩ from ⟨h1, h2⟩)
          have HZ : Hid (Tell true (Upto s p l ⟨cz, cl, ca⟩ 0)) := Lib.hid (.inl ⟨rfl, HO.out, by simp⟩)
          go_wp2
          clear h1 h2
          go_loopw [9, 10] (fun bt j wi => ∃ (m : Nat) (b : Bool), m ≤ n ∧ j = .int .i64 m ∧ bt = .bool b ∧ Tell b (Upto s p l ⟨cz, cl, ca⟩ m) ∧ Below w.heap.size w wi) (fun _ j _ => n - (intOf j).toNat)
          case atStart => exact ⟨0, _, by omega, rfl, rfl, HZ.out, HB.out⟩
          case round =>
            obtain ⟨m, b, hm2, rfl, rfl, hup, hbi⟩ := hrel
            have HU := Lib.hid hup
            have HBi := Lib.hid hbi
            clear hup hbi HZ c0 c1 c2
            obtain ⟨c0, c1, c2⟩ := HA.out wr HBi.out
            by_cases hml : m < n
            · have hkm : m < l.length := by rw [HL.out.2.1]; exact hml
              obtain ⟨x, hx⟩ : ∃ x, l[m]? = some x := ⟨_, List.getElem?_eq_getElem hkm⟩
              obtain ⟨ad2, had, hall2⟩ := cand_all HR.out hx
              obtain rfl : ad = ad2 := by injection had
              have HA2 := Lib.hid hall2
              have HUn := Lib.hid (upto_next (s := s) (p := p) (c := ⟨cz, cl, ca⟩) hx)
              have HXa := Lib.hid (HL.out.2.2 x (List.mem_of_getElem? hx))
              obtain ⟨xz, xl, xa⟩ := x
              obtain ⟨d0, d1, d2⟩ := hall2 wr HBi.out
              simp only at d0 d1 d2
              have hmi : (m : Int) < (n : Int) := by omega
              clear hx hkm hall2 had
              by_cases e1 : 0 ≤ xl
              · by_cases e2 : xl < s
                · cases b
                  · have HF := Lib.hid (show ¬ Upto s p l ⟨cz, cl, ca⟩ (m + 1) by
                      rcases HU.out with ⟨h, _⟩ | ⟨_, h⟩
                      · cases h
                      · exact fun h' => h (HUn.out.1 h').1)
                    clear HU HUn
                    go_wp2
                    go_quiet (fail)
                    go_wp2
                    go_roundw
                    case rel => exact ⟨m + 1, false, by omega, by go_num, rfl, .inr ⟨rfl, HF.out⟩, below_draws HBi.out _⟩
                    case measure => first | (simp [intOf]; done) | (simp [intOf]; omega)
                  · have HUp := Lib.hid (show Upto s p l ⟨cz, cl, ca⟩ m by
                      rcases HU.out with ⟨_, h⟩ | ⟨h, _⟩
                      · exact h
                      · cases h)
                    have HBt : Hid (∀ w, Calls Try.prog 11 #[kv xz xl xa, kv cz cl ca, .int .i64 s, .int .i64 p] w fun e w' => e = .returned (.bool (decide (Bet s p ⟨xz, xl, xa⟩ ⟨cz, cl, ca⟩))) ∧ Below w.heap.size w w') := Lib.hid fun w => rbetter_any s p ⟨xz, xl, xa⟩ ⟨cz, cl, ca⟩ w HL.out.1 ⟨⟨e1, e2⟩, HXa.out⟩ ⟨HUp.out.1, HC.out.2⟩
                    have HQ := Lib.hid (And.intro (show Bet s p ⟨xz, xl, xa⟩ ⟨cz, cl, ca⟩ → ¬ Upto s p l ⟨cz, cl, ca⟩ (m + 1) from fun h h' => (HUn.out.1 h').2 ⟨e1, e2⟩ h) (show ¬ Bet s p ⟨xz, xl, xa⟩ ⟨cz, cl, ca⟩ → Upto s p l ⟨cz, cl, ca⟩ (m + 1) from fun h => HUn.out.2 ⟨HUp.out, fun _ => h⟩))
                    clear HU HUn HUp
                    go_wp2
                    refine wp_region_class (fun w' => Below w.heap.size w w') (by kernel_rfl) (by kernel_rfl) HBi.out.drew ?_
                    intro X hX f hf hg
                    clear c0 c1 c2 d0 d1 d2
                    have c0 : ∀ x, (f x).cell? (ad.add (k * 3)) = some (.int .i64 cz) := fun x => (HA.out _ (hf x)).1
                    have c1 : ∀ x, (f x).cell? ⟨(ad.add (k * 3)).block, (ad.add (k * 3)).off + 1, none⟩ = some (.int .i64 cl) := fun x => (HA.out _ (hf x)).2.1
                    have c2 : ∀ x, (f x).cell? ⟨(ad.add (k * 3)).block, (ad.add (k * 3)).off + 2, none⟩ = some (.int .i64 ca) := fun x => (HA.out _ (hf x)).2.2
                    have d0 : ∀ x, (f x).cell? (ad.add (m * 3)) = some (.int .i64 xz) := fun x => (HA2.out _ (hf x)).1
                    have d1 : ∀ x, (f x).cell? ⟨(ad.add (m * 3)).block, (ad.add (m * 3)).off + 1, none⟩ = some (.int .i64 xl) := fun x => (HA2.out _ (hf x)).2.1
                    have d2 : ∀ x, (f x).cell? ⟨(ad.add (m * 3)).block, (ad.add (m * 3)).off + 2, none⟩ = some (.int .i64 xa) := fun x => (HA2.out _ (hf x)).2.2
                    have Hf := Lib.hid hf
                    have Hg := Lib.hid hg
                    clear hf hg
                    repeat (go_big_quiet_step (first | (go_at_call 11; with_reducible (exact calls_class (HBt.out _) (fun _ hb => Hg.out _ ((Hf.out _).trans (hb.mono (Hf.out _).size)))))))
                    refine wpQuiet_nil ?_
                    rintro _ ⟨x, rfl⟩
                    have hx := Hf.out x
                    clear c0 c1 c2 d0 d1 d2 Hf Hg HBt
                    generalize f x = wx at hx ⊢
                    clear x f hX
                    by_cases hbt : Bet s p ⟨xz, xl, xa⟩ ⟨cz, cl, ca⟩
                    · have HF := Lib.hid (HQ.out.1 hbt)
                      rw [decide_eq_true hbt]
                      clear HQ hbt
                      go_wp2
                      go_roundw
                      case rel => exact ⟨m + 1, false, by omega, by go_num, rfl, .inr ⟨rfl, HF.out⟩, hx⟩
                      case measure => first | (simp [intOf]; done) | (simp [intOf]; omega)
                    · have HF := Lib.hid (HQ.out.2 hbt)
                      rw [decide_eq_false hbt]
                      clear HQ hbt
                      go_wp2
                      go_roundw
                      case rel => exact ⟨m + 1, true, by omega, by go_num, rfl, .inl ⟨rfl, HF.out⟩, hx⟩
                      case measure => first | (simp [intOf]; done) | (simp [intOf]; omega)
                · have hd : decide (xl < s) = false := decide_eq_false e2
                  have HF := Lib.hid (show Tell b (Upto s p l ⟨cz, cl, ca⟩ (m + 1)) by
                    unfold Tell
                    rw [HUn.out]
                    rcases HU.out with ⟨h, h'⟩ | ⟨h, h'⟩
                    · exact .inl ⟨h, h', fun ho => absurd ho.2 e2⟩
                    · exact .inr ⟨h, fun hh => h' hh.1⟩)
                  clear HU HUn
                  go_wp2
                  go_quiet (fail)
                  go_wp2
                  go_roundw
                  case rel => exact ⟨m + 1, b, by omega, by go_num, rfl, HF.out, below_draws HBi.out _⟩
                  case measure => first | (simp [intOf]; done) | (simp [intOf]; omega)
              · have hd : decide (0 ≤ xl) = false := decide_eq_false e1
                have HF := Lib.hid (show Tell b (Upto s p l ⟨cz, cl, ca⟩ (m + 1)) by
                  unfold Tell
                  rw [HUn.out]
                  rcases HU.out with ⟨h, h'⟩ | ⟨h, h'⟩
                  · exact .inl ⟨h, h', fun ho => absurd ho.1 e1⟩
                  · exact .inr ⟨h, fun hh => h' hh.1⟩)
                clear HU HUn
                go_wp2
                go_quiet (fail)
                go_wp2
                go_roundw
                case rel => exact ⟨m + 1, b, by omega, by go_num, rfl, HF.out, below_draws HBi.out _⟩
                case measure => first | (simp [intOf]; done) | (simp [intOf]; omega)
            · obtain rfl : n = m := by omega
              have hfull : l.take n = l := List.take_of_length_le (by rw [HL.out.2.1]; exact Nat.le_refl _)
              cases b
              · have HF := Lib.hid (show ∀ x ∈ l.take (k + 1), ¬ Top s p l x by
                  intro x hx ht
                  rw [HX.out] at hx
                  rcases List.mem_append.1 hx with hx | hx
                  · exact HN.out x hx ht
                  · rcases HU.out with ⟨h, _⟩ | ⟨_, h⟩
                    · cases h
                    · rw [List.mem_singleton.1 hx] at ht
                      refine h ⟨ht.2.1, ?_⟩
                      rw [hfull]
                      exact ht.2.2)
                clear HU hfull
                go_wp2
                go_roundw
                case rel => exact ⟨k + 1, by omega, by go_num, HF.out, HBi.out⟩
                case measure => first | (simp [intOf]; done) | (simp [intOf]; omega)
              · have HF := Lib.hid (show Best s p l (some ⟨cz, cl, ca⟩) by
                  rcases HU.out with ⟨_, h⟩ | ⟨h, _⟩
                  · refine ⟨HC.out.1, h.1, ?_⟩
                    have h2 := h.2
                    rwa [hfull] at h2
                  · cases h)
                clear HU hfull
                go_wp2
                exact bodyPost_ret (v := .tuple #[.int .i64 cz, .bool true]) (by simp [results, Try.results14, go_sem]) rfl ⟨some ⟨cz, cl, ca⟩, HF.out, rfl, HBi.out⟩
        · have HZ : Hid (Tell false (Upto s p l ⟨cz, cl, ca⟩ 0)) := Lib.hid (.inr ⟨rfl, fun h => h2 h.1.2⟩)
          go_wp2
          clear h1 h2
          go_loopw [9, 10] (fun bt j wi => ∃ (m : Nat) (b : Bool), m ≤ n ∧ j = .int .i64 m ∧ bt = .bool b ∧ Tell b (Upto s p l ⟨cz, cl, ca⟩ m) ∧ Below w.heap.size w wi) (fun _ j _ => n - (intOf j).toNat)
          case atStart => exact ⟨0, _, by omega, rfl, rfl, HZ.out, HB.out⟩
          case round =>
            obtain ⟨m, b, hm2, rfl, rfl, hup, hbi⟩ := hrel
            have HU := Lib.hid hup
            have HBi := Lib.hid hbi
            clear hup hbi HZ c0 c1 c2
            obtain ⟨c0, c1, c2⟩ := HA.out wr HBi.out
            by_cases hml : m < n
            · have hkm : m < l.length := by rw [HL.out.2.1]; exact hml
              obtain ⟨x, hx⟩ : ∃ x, l[m]? = some x := ⟨_, List.getElem?_eq_getElem hkm⟩
              obtain ⟨ad2, had, hall2⟩ := cand_all HR.out hx
              obtain rfl : ad = ad2 := by injection had
              have HA2 := Lib.hid hall2
              have HUn := Lib.hid (upto_next (s := s) (p := p) (c := ⟨cz, cl, ca⟩) hx)
              have HXa := Lib.hid (HL.out.2.2 x (List.mem_of_getElem? hx))
              obtain ⟨xz, xl, xa⟩ := x
              obtain ⟨d0, d1, d2⟩ := hall2 wr HBi.out
              simp only at d0 d1 d2
              have hmi : (m : Int) < (n : Int) := by omega
              clear hx hkm hall2 had
              by_cases e1 : 0 ≤ xl
              · by_cases e2 : xl < s
                · cases b
                  · have HF := Lib.hid (show ¬ Upto s p l ⟨cz, cl, ca⟩ (m + 1) by
                      rcases HU.out with ⟨h, _⟩ | ⟨_, h⟩
                      · cases h
                      · exact fun h' => h (HUn.out.1 h').1)
                    clear HU HUn
                    go_wp2
                    go_quiet (fail)
                    go_wp2
                    go_roundw
                    case rel => exact ⟨m + 1, false, by omega, by go_num, rfl, .inr ⟨rfl, HF.out⟩, below_draws HBi.out _⟩
                    case measure => first | (simp [intOf]; done) | (simp [intOf]; omega)
                  · have HUp := Lib.hid (show Upto s p l ⟨cz, cl, ca⟩ m by
                      rcases HU.out with ⟨_, h⟩ | ⟨h, _⟩
                      · exact h
                      · cases h)
                    have HBt : Hid (∀ w, Calls Try.prog 11 #[kv xz xl xa, kv cz cl ca, .int .i64 s, .int .i64 p] w fun e w' => e = .returned (.bool (decide (Bet s p ⟨xz, xl, xa⟩ ⟨cz, cl, ca⟩))) ∧ Below w.heap.size w w') := Lib.hid fun w => rbetter_any s p ⟨xz, xl, xa⟩ ⟨cz, cl, ca⟩ w HL.out.1 ⟨⟨e1, e2⟩, HXa.out⟩ ⟨HUp.out.1, HC.out.2⟩
                    have HQ := Lib.hid (And.intro (show Bet s p ⟨xz, xl, xa⟩ ⟨cz, cl, ca⟩ → ¬ Upto s p l ⟨cz, cl, ca⟩ (m + 1) from fun h h' => (HUn.out.1 h').2 ⟨e1, e2⟩ h) (show ¬ Bet s p ⟨xz, xl, xa⟩ ⟨cz, cl, ca⟩ → Upto s p l ⟨cz, cl, ca⟩ (m + 1) from fun h => HUn.out.2 ⟨HUp.out, fun _ => h⟩))
                    clear HU HUn HUp
                    go_wp2
                    refine wp_region_class (fun w' => Below w.heap.size w w') (by kernel_rfl) (by kernel_rfl) HBi.out.drew ?_
                    intro X hX f hf hg
                    clear c0 c1 c2 d0 d1 d2
                    have c0 : ∀ x, (f x).cell? (ad.add (k * 3)) = some (.int .i64 cz) := fun x => (HA.out _ (hf x)).1
                    have c1 : ∀ x, (f x).cell? ⟨(ad.add (k * 3)).block, (ad.add (k * 3)).off + 1, none⟩ = some (.int .i64 cl) := fun x => (HA.out _ (hf x)).2.1
                    have c2 : ∀ x, (f x).cell? ⟨(ad.add (k * 3)).block, (ad.add (k * 3)).off + 2, none⟩ = some (.int .i64 ca) := fun x => (HA.out _ (hf x)).2.2
                    have d0 : ∀ x, (f x).cell? (ad.add (m * 3)) = some (.int .i64 xz) := fun x => (HA2.out _ (hf x)).1
                    have d1 : ∀ x, (f x).cell? ⟨(ad.add (m * 3)).block, (ad.add (m * 3)).off + 1, none⟩ = some (.int .i64 xl) := fun x => (HA2.out _ (hf x)).2.1
                    have d2 : ∀ x, (f x).cell? ⟨(ad.add (m * 3)).block, (ad.add (m * 3)).off + 2, none⟩ = some (.int .i64 xa) := fun x => (HA2.out _ (hf x)).2.2
                    have Hf := Lib.hid hf
                    have Hg := Lib.hid hg
                    clear hf hg
                    repeat (go_big_quiet_step (first | (go_at_call 11; with_reducible (exact calls_class (HBt.out _) (fun _ hb => Hg.out _ ((Hf.out _).trans (hb.mono (Hf.out _).size)))))))
                    refine wpQuiet_nil ?_
                    rintro _ ⟨x, rfl⟩
                    have hx := Hf.out x
                    clear c0 c1 c2 d0 d1 d2 Hf Hg HBt
                    generalize f x = wx at hx ⊢
                    clear x f hX
                    by_cases hbt : Bet s p ⟨xz, xl, xa⟩ ⟨cz, cl, ca⟩
                    · have HF := Lib.hid (HQ.out.1 hbt)
                      rw [decide_eq_true hbt]
                      clear HQ hbt
                      go_wp2
                      go_roundw
                      case rel => exact ⟨m + 1, false, by omega, by go_num, rfl, .inr ⟨rfl, HF.out⟩, hx⟩
                      case measure => first | (simp [intOf]; done) | (simp [intOf]; omega)
                    · have HF := Lib.hid (HQ.out.2 hbt)
                      rw [decide_eq_false hbt]
                      clear HQ hbt
                      go_wp2
                      go_roundw
                      case rel => exact ⟨m + 1, true, by omega, by go_num, rfl, .inl ⟨rfl, HF.out⟩, hx⟩
                      case measure => first | (simp [intOf]; done) | (simp [intOf]; omega)
                · have hd : decide (xl < s) = false := decide_eq_false e2
                  have HF := Lib.hid (show Tell b (Upto s p l ⟨cz, cl, ca⟩ (m + 1)) by
                    unfold Tell
                    rw [HUn.out]
                    rcases HU.out with ⟨h, h'⟩ | ⟨h, h'⟩
                    · exact .inl ⟨h, h', fun ho => absurd ho.2 e2⟩
                    · exact .inr ⟨h, fun hh => h' hh.1⟩)
                  clear HU HUn
                  go_wp2
                  go_quiet (fail)
                  go_wp2
                  go_roundw
                  case rel => exact ⟨m + 1, b, by omega, by go_num, rfl, HF.out, below_draws HBi.out _⟩
                  case measure => first | (simp [intOf]; done) | (simp [intOf]; omega)
              · have hd : decide (0 ≤ xl) = false := decide_eq_false e1
                have HF := Lib.hid (show Tell b (Upto s p l ⟨cz, cl, ca⟩ (m + 1)) by
                  unfold Tell
                  rw [HUn.out]
                  rcases HU.out with ⟨h, h'⟩ | ⟨h, h'⟩
                  · exact .inl ⟨h, h', fun ho => absurd ho.1 e1⟩
                  · exact .inr ⟨h, fun hh => h' hh.1⟩)
                clear HU HUn
                go_wp2
                go_quiet (fail)
                go_wp2
                go_roundw
                case rel => exact ⟨m + 1, b, by omega, by go_num, rfl, HF.out, below_draws HBi.out _⟩
                case measure => first | (simp [intOf]; done) | (simp [intOf]; omega)
            · obtain rfl : n = m := by omega
              have hfull : l.take n = l := List.take_of_length_le (by rw [HL.out.2.1]; exact Nat.le_refl _)
              cases b
              · have HF := Lib.hid (show ∀ x ∈ l.take (k + 1), ¬ Top s p l x by
                  intro x hx ht
                  rw [HX.out] at hx
                  rcases List.mem_append.1 hx with hx | hx
                  · exact HN.out x hx ht
                  · rcases HU.out with ⟨h, _⟩ | ⟨_, h⟩
                    · cases h
                    · rw [List.mem_singleton.1 hx] at ht
                      refine h ⟨ht.2.1, ?_⟩
                      rw [hfull]
                      exact ht.2.2)
                clear HU hfull
                go_wp2
                go_roundw
                case rel => exact ⟨k + 1, by omega, by go_num, HF.out, HBi.out⟩
                case measure => first | (simp [intOf]; done) | (simp [intOf]; omega)
              · have HF := Lib.hid (show Best s p l (some ⟨cz, cl, ca⟩) by
                  rcases HU.out with ⟨_, h⟩ | ⟨h, _⟩
                  · refine ⟨HC.out.1, h.1, ?_⟩
                    have h2 := h.2
                    rwa [hfull] at h2
                  · cases h)
                clear HU hfull
                go_wp2
                exact bodyPost_ret (v := .tuple #[.int .i64 cz, .bool true]) (by simp [results, Try.results14, go_sem]) rfl ⟨some ⟨cz, cl, ca⟩, HF.out, rfl, HBi.out⟩
      · have HZ : Hid (Tell false (Upto s p l ⟨cz, cl, ca⟩ 0)) := Lib.hid (.inr ⟨rfl, fun h => h1 h.1.1⟩)
        go_wp2
        clear h1
        go_loopw [9, 10] (fun bt j wi => ∃ (m : Nat) (b : Bool), m ≤ n ∧ j = .int .i64 m ∧ bt = .bool b ∧ Tell b (Upto s p l ⟨cz, cl, ca⟩ m) ∧ Below w.heap.size w wi) (fun _ j _ => n - (intOf j).toNat)
        case atStart => exact ⟨0, _, by omega, rfl, rfl, HZ.out, HB.out⟩
        case round =>
          obtain ⟨m, b, hm2, rfl, rfl, hup, hbi⟩ := hrel
          have HU := Lib.hid hup
          have HBi := Lib.hid hbi
          clear hup hbi HZ c0 c1 c2
          obtain ⟨c0, c1, c2⟩ := HA.out wr HBi.out
          by_cases hml : m < n
          · have hkm : m < l.length := by rw [HL.out.2.1]; exact hml
            obtain ⟨x, hx⟩ : ∃ x, l[m]? = some x := ⟨_, List.getElem?_eq_getElem hkm⟩
            obtain ⟨ad2, had, hall2⟩ := cand_all HR.out hx
            obtain rfl : ad = ad2 := by injection had
            have HA2 := Lib.hid hall2
            have HUn := Lib.hid (upto_next (s := s) (p := p) (c := ⟨cz, cl, ca⟩) hx)
            have HXa := Lib.hid (HL.out.2.2 x (List.mem_of_getElem? hx))
            obtain ⟨xz, xl, xa⟩ := x
            obtain ⟨d0, d1, d2⟩ := hall2 wr HBi.out
            simp only at d0 d1 d2
            have hmi : (m : Int) < (n : Int) := by omega
            clear hx hkm hall2 had
            by_cases e1 : 0 ≤ xl
            · by_cases e2 : xl < s
              · cases b
                · have HF := Lib.hid (show ¬ Upto s p l ⟨cz, cl, ca⟩ (m + 1) by
                    rcases HU.out with ⟨h, _⟩ | ⟨_, h⟩
                    · cases h
                    · exact fun h' => h (HUn.out.1 h').1)
                  clear HU HUn
                  go_wp2
                  go_quiet (fail)
                  go_wp2
                  go_roundw
                  case rel => exact ⟨m + 1, false, by omega, by go_num, rfl, .inr ⟨rfl, HF.out⟩, below_draws HBi.out _⟩
                  case measure => first | (simp [intOf]; done) | (simp [intOf]; omega)
                · have HUp := Lib.hid (show Upto s p l ⟨cz, cl, ca⟩ m by
                    rcases HU.out with ⟨_, h⟩ | ⟨h, _⟩
                    · exact h
                    · cases h)
                  have HBt : Hid (∀ w, Calls Try.prog 11 #[kv xz xl xa, kv cz cl ca, .int .i64 s, .int .i64 p] w fun e w' => e = .returned (.bool (decide (Bet s p ⟨xz, xl, xa⟩ ⟨cz, cl, ca⟩))) ∧ Below w.heap.size w w') := Lib.hid fun w => rbetter_any s p ⟨xz, xl, xa⟩ ⟨cz, cl, ca⟩ w HL.out.1 ⟨⟨e1, e2⟩, HXa.out⟩ ⟨HUp.out.1, HC.out.2⟩
                  have HQ := Lib.hid (And.intro (show Bet s p ⟨xz, xl, xa⟩ ⟨cz, cl, ca⟩ → ¬ Upto s p l ⟨cz, cl, ca⟩ (m + 1) from fun h h' => (HUn.out.1 h').2 ⟨e1, e2⟩ h) (show ¬ Bet s p ⟨xz, xl, xa⟩ ⟨cz, cl, ca⟩ → Upto s p l ⟨cz, cl, ca⟩ (m + 1) from fun h => HUn.out.2 ⟨HUp.out, fun _ => h⟩))
                  clear HU HUn HUp
                  go_wp2
                  refine wp_region_class (fun w' => Below w.heap.size w w') (by kernel_rfl) (by kernel_rfl) HBi.out.drew ?_
                  intro X hX f hf hg
                  clear c0 c1 c2 d0 d1 d2
                  have c0 : ∀ x, (f x).cell? (ad.add (k * 3)) = some (.int .i64 cz) := fun x => (HA.out _ (hf x)).1
                  have c1 : ∀ x, (f x).cell? ⟨(ad.add (k * 3)).block, (ad.add (k * 3)).off + 1, none⟩ = some (.int .i64 cl) := fun x => (HA.out _ (hf x)).2.1
                  have c2 : ∀ x, (f x).cell? ⟨(ad.add (k * 3)).block, (ad.add (k * 3)).off + 2, none⟩ = some (.int .i64 ca) := fun x => (HA.out _ (hf x)).2.2
                  have d0 : ∀ x, (f x).cell? (ad.add (m * 3)) = some (.int .i64 xz) := fun x => (HA2.out _ (hf x)).1
                  have d1 : ∀ x, (f x).cell? ⟨(ad.add (m * 3)).block, (ad.add (m * 3)).off + 1, none⟩ = some (.int .i64 xl) := fun x => (HA2.out _ (hf x)).2.1
                  have d2 : ∀ x, (f x).cell? ⟨(ad.add (m * 3)).block, (ad.add (m * 3)).off + 2, none⟩ = some (.int .i64 xa) := fun x => (HA2.out _ (hf x)).2.2
                  have Hf := Lib.hid hf
                  have Hg := Lib.hid hg
                  clear hf hg
                  repeat (go_big_quiet_step (first | (go_at_call 11; with_reducible (exact calls_class (HBt.out _) (fun _ hb => Hg.out _ ((Hf.out _).trans (hb.mono (Hf.out _).size)))))))
                  refine wpQuiet_nil ?_
                  rintro _ ⟨x, rfl⟩
                  have hx := Hf.out x
                  clear c0 c1 c2 d0 d1 d2 Hf Hg HBt
                  generalize f x = wx at hx ⊢
                  clear x f hX
                  by_cases hbt : Bet s p ⟨xz, xl, xa⟩ ⟨cz, cl, ca⟩
                  · have HF := Lib.hid (HQ.out.1 hbt)
                    rw [decide_eq_true hbt]
                    clear HQ hbt
                    go_wp2
                    go_roundw
                    case rel => exact ⟨m + 1, false, by omega, by go_num, rfl, .inr ⟨rfl, HF.out⟩, hx⟩
                    case measure => first | (simp [intOf]; done) | (simp [intOf]; omega)
                  · have HF := Lib.hid (HQ.out.2 hbt)
                    rw [decide_eq_false hbt]
                    clear HQ hbt
                    go_wp2
                    go_roundw
                    case rel => exact ⟨m + 1, true, by omega, by go_num, rfl, .inl ⟨rfl, HF.out⟩, hx⟩
                    case measure => first | (simp [intOf]; done) | (simp [intOf]; omega)
              · have hd : decide (xl < s) = false := decide_eq_false e2
                have HF := Lib.hid (show Tell b (Upto s p l ⟨cz, cl, ca⟩ (m + 1)) by
                  unfold Tell
                  rw [HUn.out]
                  rcases HU.out with ⟨h, h'⟩ | ⟨h, h'⟩
                  · exact .inl ⟨h, h', fun ho => absurd ho.2 e2⟩
                  · exact .inr ⟨h, fun hh => h' hh.1⟩)
                clear HU HUn
                go_wp2
                go_quiet (fail)
                go_wp2
                go_roundw
                case rel => exact ⟨m + 1, b, by omega, by go_num, rfl, HF.out, below_draws HBi.out _⟩
                case measure => first | (simp [intOf]; done) | (simp [intOf]; omega)
            · have hd : decide (0 ≤ xl) = false := decide_eq_false e1
              have HF := Lib.hid (show Tell b (Upto s p l ⟨cz, cl, ca⟩ (m + 1)) by
                unfold Tell
                rw [HUn.out]
                rcases HU.out with ⟨h, h'⟩ | ⟨h, h'⟩
                · exact .inl ⟨h, h', fun ho => absurd ho.1 e1⟩
                · exact .inr ⟨h, fun hh => h' hh.1⟩)
              clear HU HUn
              go_wp2
              go_quiet (fail)
              go_wp2
              go_roundw
              case rel => exact ⟨m + 1, b, by omega, by go_num, rfl, HF.out, below_draws HBi.out _⟩
              case measure => first | (simp [intOf]; done) | (simp [intOf]; omega)
          · obtain rfl : n = m := by omega
            have hfull : l.take n = l := List.take_of_length_le (by rw [HL.out.2.1]; exact Nat.le_refl _)
            cases b
            · have HF := Lib.hid (show ∀ x ∈ l.take (k + 1), ¬ Top s p l x by
                intro x hx ht
                rw [HX.out] at hx
                rcases List.mem_append.1 hx with hx | hx
                · exact HN.out x hx ht
                · rcases HU.out with ⟨h, _⟩ | ⟨_, h⟩
                  · cases h
                  · rw [List.mem_singleton.1 hx] at ht
                    refine h ⟨ht.2.1, ?_⟩
                    rw [hfull]
                    exact ht.2.2)
              clear HU hfull
              go_wp2
              go_roundw
              case rel => exact ⟨k + 1, by omega, by go_num, HF.out, HBi.out⟩
              case measure => first | (simp [intOf]; done) | (simp [intOf]; omega)
            · have HF := Lib.hid (show Best s p l (some ⟨cz, cl, ca⟩) by
                rcases HU.out with ⟨_, h⟩ | ⟨h, _⟩
                · refine ⟨HC.out.1, h.1, ?_⟩
                  have h2 := h.2
                  rwa [hfull] at h2
                · cases h)
              clear HU hfull
              go_wp2
              exact bodyPost_ret (v := .tuple #[.int .i64 cz, .bool true]) (by simp [results, Try.results14, go_sem]) rfl ⟨some ⟨cz, cl, ca⟩, HF.out, rfl, HBi.out⟩
    · obtain rfl : n = k := by omega
      have HE := Lib.hid (best_none HL.out.1 (show ∀ x ∈ l, ¬ Top s p l x by have h := HN.out; rwa [List.take_of_length_le (by rw [HL.out.2.1]; exact Nat.le_refl _)] at h))
      go_wp2
      exact bodyPost_ret (v := .tuple #[.int .i64 0, .bool false]) (by simp [results, Try.results14, go_sem]) rfl ⟨none, HE.out, rfl, HB.out⟩
end Go.Proofs.Ytndjjgabfmplcaa

/-
  Acts in memory; the document's Few and Do of layer 17, and the law's do.
-/
import Derived.Test.YtjjomfpkdbfhdaaSnJ
namespace Go.Proofs.Ytjjomfpkdbfhdaa
open Go.RowKit Word Snap
set_option linter.unusedVariables false

/-- an act, and where its list lies -/
structure Av where
  kind : Nat
  ov : Ov
  n : Int
def acs (x : Av) : List Value := [.int .u8 x.kind, x.ov.v, .int .i64 x.n]
def avs (l : List Av) : List Value := l.flatMap acs
theorem avs_cons (x : Av) (l : List Av) : avs (x :: l) = acs x ++ avs l := rfl
theorem avs_length (l : List Av) : (avs l).length = l.length * 3 := by
  induction l with
  | nil => rfl
  | cons x l ih =>
    rw [avs_cons, List.length_append, ih]
    simp [acs]
    omega
theorem acs_one (x : Av) : ∀ u ∈ acs x, u.oneCell' = true := by
  intro u hu
  simp [acs] at hu
  rcases hu with rfl | rfl | rfl <;> rfl
theorem avs_at {l : List Av} {k j : Nat} {x : Av} {v : Value} (hk : l[k]? = some x) (hv : (acs x)[j]? = some v) : (avs l)[k * 3 + j]? = some v := by
  induction l generalizing k with
  | nil => simp at hk
  | cons y l ih =>
    rw [avs_cons]
    cases k with
    | zero =>
      obtain rfl : y = x := by simpa using hk
      have hj : j < (acs y).length := (List.getElem?_eq_some_iff.1 hv).1
      rw [Nat.zero_mul, Nat.zero_add, List.getElem?_append_left hj]
      exact hv
    | succ k =>
      have hx : (acs y).length = 3 := rfl
      rw [List.getElem?_append_right (by omega), hx, show (k + 1) * 3 + j - 3 = k * 3 + j by omega]
      exact ih (by simpa using hk)
theorem av_at {w : World} {B : Nat} {A : Option Addr} {l : List Av} {k : Nat} {x : Av} (h : Rd w B A (avs l)) (hk : l[k]? = some x) :
    ∃ ad, A = some ad ∧ ad.block < B ∧ w.cell? (ad.add (k * 3)) = some (.int .u8 x.kind) ∧ w.cell? ⟨(ad.add (k * 3)).block, (ad.add (k * 3)).off + 1, none⟩ = some x.ov.v ∧ w.cell? ⟨(ad.add (k * 3)).block, (ad.add (k * 3)).off + 2, none⟩ = some (.int .i64 x.n) := by
  obtain ⟨ad, rfl, hb, hc⟩ := h.at (avs_at hk (j := 0) (v := .int .u8 x.kind) rfl)
  have e : ∀ (a : Addr) (j : Nat), j ≠ 0 → (⟨a.block, a.off + j, none⟩ : Addr) = a.add j := by
    intro a j hj
    unfold Addr.add
    rw [if_neg hj]
  refine ⟨ad, rfl, hb, hc, ?_, ?_⟩
  · rw [e _ 1 (by decide), addr_add_add]
    obtain ⟨ad2, e2, _, h2⟩ := h.at (avs_at hk (j := 1) (v := x.ov.v) rfl)
    obtain rfl : ad = ad2 := by injection e2
    exact h2
  · rw [e _ 2 (by decide), addr_add_add]
    obtain ⟨ad2, e2, _, h2⟩ := h.at (avs_at hk (j := 2) (v := .int .i64 x.n) rfl)
    obtain rfl : ad = ad2 := by injection e2
    exact h2
/-- an act that can be read -/
structure AvIn (w : World) (B : Nat) (x : Av) : Prop where
  rd : Rd w B x.ov.A (ols x.ov.olds)
  ins : ∀ o ∈ x.ov.olds, OIn o
  room : x.ov.olds.length ≤ x.ov.cap
  kind : x.kind ≤ 255
  far : x.ov.olds.length ≤ 140737488355328
theorem AvIn.below {w w' : World} {B : Nat} {x : Av} (h : AvIn w B x) (hb : Below B w w') : AvIn w' B x := ⟨h.rd.below hb, h.ins, h.room, h.kind, h.far⟩
theorem AvIn.more {w : World} {B B' : Nat} {x : Av} (h : AvIn w B x) (hb : B ≤ B') : AvIn w B' x := ⟨h.rd.more hb, h.ins, h.room, h.kind, h.far⟩
theorem AvIn.ovin {w : World} {B : Nat} {x : Av} (h : AvIn w B x) (hf : x.ov.olds.length ≤ 200) : OvIn w B x.ov := ⟨h.rd, h.ins, hf, h.room⟩
/-- how much it is -/
def muchK (l : List Av) (k : Nat) : Nat := l.length + ((l.take k).map fun x => x.ov.olds.length).sum
theorem muchK_step {l : List Av} {k : Nat} {x : Av} (h : l[k]? = some x) : muchK l (k + 1) = muchK l k + x.ov.olds.length := by
  obtain ⟨hk, rfl⟩ := List.getElem?_eq_some_iff.1 h
  unfold muchK
  rw [List.take_succ_eq_append_getElem hk, List.map_append, List.sum_append]
  simp
  omega
theorem muchK_mono {l : List Av} {k : Nat} {x : Av} (h : x ∈ l) (hk : l.length ≤ k) : x.ov.olds.length ≤ muchK l k := by
  unfold muchK
  rw [List.take_of_length_le hk]
  have : x.ov.olds.length ≤ (l.map fun x => x.ov.olds.length).sum := by
    induction l with
    | nil => cases h
    | cons y l ih =>
      rw [List.map_cons, List.sum_cons]
      rcases List.mem_cons.1 h with rfl | h
      · omega
      · have := ih h (by simp at hk; omega)
        omega
  omega
/-- are there few acts, with few blocks -/
def Fewy (l : List Av) : Prop := muchK l l.length ≤ 200
def FewE (l : List Av) (e : Ending) : Prop := ∃ b : Bool, e = .returned (.bool b) ∧ (b = true → Fewy l)
theorem FewE.of {l : List Av} (b : Bool) (h : b = true → Fewy l) : FewE l (.returned (.bool b)) := ⟨b, rfl, h⟩
set_option maxRecDepth 100000 in
set_option maxHeartbeats 4000000 in
theorem few_any (A : Option Addr) (n cap : Nat) (l : List Av) (w : World) (hl : l.length = n) (hn : n ≤ maxLen) (hr : Rd w w.heap.size A (avs l)) (hin : ∀ x ∈ l, AvIn w w.heap.size x) :
    Calls Try.prog 9 #[.slice A n cap] w fun e w' => FewE l e ∧ w = w' := by
  have HL := Lib.hid (And.intro hl (And.intro hr hin))
  unfold maxLen at hn
  clear hl hr hin
  go_enter Try.func9, Try.ntmps9
  go_wp2
  go_loop [3, 4] (fun v i => ∃ k : Nat, k ≤ n ∧ i = .int .i64 k ∧ v = .int .i64 (muchK l k : Int) ∧ (k = 0 ∨ muchK l k ≤ 140737488355528)) (fun _ i => n - (intOf i).toNat)
  case atStart => exact ⟨0, by omega, rfl, by unfold muchK; simp [HL.out.1], .inl rfl⟩
  case round =>
    obtain ⟨k, hk, rfl, rfl, hb⟩ := hrel
    have hmn : n ≤ muchK l k := by unfold muchK; rw [HL.out.1]; omega
    by_cases hlt : k < n
    · have hki : (k : Int) < (n : Int) := by omega
      by_cases h2 : muchK l k ≤ 200
      · have hkl : k < l.length := by rw [HL.out.1]; exact hlt
        have hx : l[k]? = some (l[k]'hkl) := List.getElem?_eq_getElem hkl
        obtain ⟨ad, rfl, hadb, c0, c1, c2⟩ := av_at HL.out.2.1 hx
        have hfar := (HL.out.2.2 _ (List.getElem_mem hkl)).far
        have HS := Lib.hid (muchK_step hx)
        generalize l[k]'hkl = x at *
        obtain ⟨xk, ⟨xo, xA, xc⟩, xn⟩ := x
        replace hfar : xo.length ≤ 140737488355328 := hfar
        replace c1 : w.cell? ⟨(ad.add (k * 3)).block, (ad.add (k * 3)).off + 1, none⟩ = some (.slice xA xo.length xc) := c1
        replace HS : Hid (muchK l (k + 1) = muchK l k + xo.length) := HS
        generalize xo.length = xl at *
        generalize muchK l k = M at *
        have hMi : (M : Int) ≤ 200 := by omega
        have hw1 := IntWalk.i64_in ((M : Int) + (xl : Int)) (by omega)
        clear hx hkl hb
        go_wp2
        go_round
        case rel => exact ⟨k + 1, by omega, by go_num, by rw [HS.out]; exact congrArg (Value.int .i64) (by omega), .inr (by rw [HS.out]; omega)⟩
        case measure => first | (simp [intOf]; done) | (simp [intOf]; omega)
      · have hno : ¬ Fewy l := fun h => by
          unfold Fewy at h
          have : muchK l k ≤ muchK l l.length := by
            unfold muchK
            have h1 : l.take l.length = l.take k ++ l.drop k := by rw [List.take_length, List.take_append_drop]
            rw [h1, List.map_append, List.sum_append]
            omega
          omega
        have HNo := Lib.hid hno
        clear hno
        generalize muchK l k = M at *
        have hMi : ¬ (M : Int) ≤ 200 := by omega
        have hMd : decide (M ≤ 200) = false := decide_eq_false h2
        have hMp : (M ≤ 200) = False := eq_false h2
        clear h2
        go_wp2
        go_ret
        exact ⟨FewE.of _ fun h => by simp at h, rfl⟩
    · obtain rfl : n = k := by omega
      have HF : Hid (muchK l n ≤ 200 → Fewy l) := Lib.hid fun h => by unfold Fewy; rw [HL.out.1]; exact h
      clear hmn hb
      generalize muchK l n = M at *
      go_wp2
      go_ret
      exact ⟨FewE.of _ fun h => HF.out (by simp at h; omega), rfl⟩
/-- what an act makes of commits -/
def actS (s : List (List Ol) × Nat) (x : Av) : List (List Ol) × Nat := if x.kind % 2 = 0 then (s.1 ++ [x.ov.olds], s.2) else (s.1, max s.2 (min x.n s.1.length).toNat)
theorem actS_even {s : List (List Ol) × Nat} {x : Av} (h : x.kind % 2 = 0) : actS s x = (s.1 ++ [x.ov.olds], s.2) := if_pos h
theorem actS_odd {s : List (List Ol) × Nat} {x : Av} (h : ¬ x.kind % 2 = 0) : actS s x = (s.1, max s.2 (min x.n s.1.length).toNat) := if_neg h
def actsK (l : List Av) (k : Nat) : List (List Ol) × Nat := (l.take k).foldl actS ([], 0)
theorem actsK_step {l : List Av} {k : Nat} {x : Av} (h : l[k]? = some x) : actsK l (k + 1) = actS (actsK l k) x := by
  obtain ⟨hk, rfl⟩ := List.getElem?_eq_some_iff.1 h
  unfold actsK
  rw [List.take_succ_eq_append_getElem hk, List.foldl_append]
  rfl
theorem actsK_len (l : List Av) : ∀ k, (actsK l k).1.length ≤ k
  | 0 => Nat.le_refl _
  | k + 1 => by
    cases h : l[k]? with
    | none =>
      have e : l.take (k + 1) = l.take k := by
        have := List.getElem?_eq_none_iff.1 h
        rw [List.take_of_length_le (by omega), List.take_of_length_le (by omega)]
      have e2 : actsK l (k + 1) = actsK l k := by unfold actsK; rw [e]
      rw [e2]
      exact Nat.le_succ_of_le (actsK_len l k)
    | some x =>
      rw [actsK_step h]
      have := actsK_len l k
      unfold actS
      split
      · simp; omega
      · simp; omega
set_option maxRecDepth 100000 in
set_option maxHeartbeats 4000000 in
/-- the law's do -/
theorem ldo_any (d b c m : Nat) (all : List (List Ol)) (g : Nat) (x : Av) (w : World) (t : SnIs w d b c m all g) (hx : AvIn w w.heap.size x) (hf : x.ov.olds.length ≤ 200) (hm : m ≤ 50000) (hn : all.length ≤ 100000) :
    Calls Try.prog 11 #[snp d, .agg (acs x).toArray] w fun e w' => e = .returned (.tuple #[]) ∧ SnIs w' d b c (m + 200) (actS (all, g) x).1 (actS (all, g) x).2 ∧ Fr (Tri d b c) w w' := by
  obtain ⟨xk, ⟨xo, xA, xc⟩, xn⟩ := x
  have HT := Lib.hid (And.intro t (And.intro hx (show xo.length ≤ 200 from hf)))
  have hk : xk ≤ 255 := hx.kind
  have hk0 : (0 : Int) ≤ (xk : Int) := by omega
  have hk1 : (xk : Int) ≤ 255 := by omega
  have hb0 : Below w.heap.size w (w.alloc (.cells #[.int .u8 xk, .slice xA xo.length xc, .int .i64 xn] 33)) := (Below.refl _ _).alloc (Nat.le_refl _) _
  have hbx := Box.new w 33 [.int .u8 xk, .slice xA xo.length xc, .int .i64 xn]
  have HC : Hid (∀ w', Below w.heap.size w w' → Calls Try.prog 20 #[snp d, .slice xA xo.length xc] w' fun e w'' => e = .returned (.tuple #[]) ∧ SnIs w'' d b c (m + xo.length) (all ++ [xo]) g ∧ Fr (Tri d b c) w' w'') := Lib.hid fun w' hb =>
    commit_any d b c m all g xA xo.length xc xo w' (t.on hb) rfl hx.ins ((hx.rd.below hb).more hb.size) (by have : xo.length ≤ 200 := hf; omega) hn
  have HG : Hid (∀ w', Below w.heap.size w w' → Calls Try.prog 21 #[snp d, .int .i64 xn] w' fun e w'' => e = .returned (.tuple #[]) ∧ SnIs w'' d b c m all (max g (min xn all.length).toNat) ∧ Fr (Tri d b c) w' w'') := Lib.hid fun w' hb => forget_any d b c m all g xn w' (t.on hb)
  clear t hx hf
  generalize hxl : xo.length = xn2 at *
  show Calls Try.prog 11 #[snp d, .agg #[.int .u8 xk, .slice xA xo.length xc, .int .i64 xn]] w _
  rw [hxl]
  by_cases he : xk % 2 = 0
  · have HE := Lib.hid (actS_even (s := (all, g)) (x := ⟨xk, ⟨xo, xA, xc⟩, xn⟩) he)
    have hKb : (((xk : Int) % 2) == 0) = true := by simp; omega
    go_enter Try.func11, Try.ntmps11
    go_wp2_with fail
    generalize World.alloc _ _ = w1 at hb0 hbx ⊢
    have HB := Lib.hid hb0
    clear hbx hb0
    refine (HC.out _ HB.out).mono ?_
    rintro e w2 ⟨rfl, hs, hf⟩
    have H2 := Lib.hid (And.intro hs hf)
    clear hs hf
    go_wp2
    go_end0
    exact ⟨rfl, by rw [HE.out]; exact ⟨H2.out.1.raw.mono (by have := HT.out.2.2; omega), H2.out.1.le⟩, (Fr.of_below HB.out).trans H2.out.2⟩
  · have HE := Lib.hid (actS_odd (s := (all, g)) (x := ⟨xk, ⟨xo, xA, xc⟩, xn⟩) he)
    have hKb : (((xk : Int) % 2) == 0) = false := by simp; omega
    go_enter Try.func11, Try.ntmps11
    go_wp2_with fail
    generalize World.alloc _ _ = w1 at hb0 hbx ⊢
    have HB := Lib.hid hb0
    clear hbx hb0
    refine (HG.out _ HB.out).mono ?_
    rintro e w2 ⟨rfl, hs, hf⟩
    have H2 := Lib.hid (And.intro hs hf)
    clear hs hf
    go_wp2
    go_end0
    exact ⟨rfl, by rw [HE.out]; exact ⟨H2.out.1.raw.mono (by omega), H2.out.1.le⟩, (Fr.of_below HB.out).trans H2.out.2⟩
end Go.Proofs.Ytjjomfpkdbfhdaa

/-
  DevAw
-/
import Derived.Test.YthgjlofebicpiaaMg34
import Derived.Test.YthgjlofebicpiaaMg07
import Derived.Test.YthgjlofebicpiaaMg12
import Derived.Test.YthgjlofebicpiaaMg09
/-
  'awake' of layer 5 answers true.
  Two devices side by side; what each act keeps of a device's measure; elements of slices of great elements.
  The arguments of the laws of layer 5, opened.
-/
namespace Go.Proofs.Ythgjlofebicpiaa
open Go.RowKit Geom Zone Dev
set_option linter.unusedVariables false

section
variable {w W W' : World} {d : Nat} {D D' : Dv} {T U : Nat → Prop}
theorem DevIs.shrink (h : DevIs T W d D) (hU : ∀ k, k < W.heap.size → T k → U k) : DevIs U W d D := by
  obtain ⟨gz, cz, lb, cv, nb, hD, hown, hcv, hm, hmn, t1, t2, t3, t4, t5, t6⟩ := h
  exact ⟨gz, cz, lb, cv, nb, hD, hown, hcv, hm, hmn, hU _ hD.lt t1, hU _ (hown.lt gz rfl).2 t2, hU _ hm.lt t3, hU _ hmn.lt t4, fun g hg => hU g (hcv.lt g hg).2 (t5 g hg), t6⟩
theorem DevIs.keep (h : DevIs T W d D) (e : ∀ k, k < W.heap.size → T k → W'.heap[k]? = W.heap[k]?) : DevIs T W' d D := by
  obtain ⟨gz, cz, lb, cv, nb, hD, hown, hcv, hm, hmn, t1, t2, t3, t4, t5, t6⟩ := h
  refine ⟨gz, cz, lb, cv, nb, hD.same (e _ hD.lt t1), own_same hown fun g hg => e g (hown.lt g hg).2 ?_, own_same hcv fun g hg => e g (hcv.lt g hg).2 (t5 g hg), hm.same (e _ hm.lt t3), hmn.same (e _ hmn.lt t4), t1, t2, t3, t4, t5, t6⟩
  injection hg with hg
  have : gz = g := hg
  exact this ▸ t2
/-- from block B on, but for those of X -/
def TX (B : Nat) (X : List Nat) : Nat → Prop := fun k => B ≤ k ∧ k ∉ X
/-- a device, in blocks made since w, but for those of X -/
def DvSt (w W : World) (X : List Nat) (d : Nat) (D : Dv) : Prop := DevIs (TX w.heap.size X) W d D ∧ Below w.heap.size w W ∧ ∀ b ∈ X, b < W.heap.size
theorem DvSt.hT {X : List Nat} (h : DvSt w W X d D) : ∀ k, W.heap.size ≤ k → TX w.heap.size X k := fun k hk => ⟨Nat.le_trans h.2.1.size hk, fun hx => by have := h.2.2 k hx; omega⟩
theorem DvSt.next {X : List Nat} (h : DvSt w W X d D) (hI : DevIs (TX w.heap.size X) W' d D') (hF : Fr (TX w.heap.size X) W W') : DvSt w W' X d D' :=
  ⟨hI, h.2.1.trans (hF.below h.2.1.size fun k hk ht => by have := ht.1; omega), fun b hb => Nat.lt_of_lt_of_le (h.2.2 b hb) hF.size⟩
theorem DvSt.on {X : List Nat} (h : DvSt w W X d D) (hb : Below W.heap.size W W') : DvSt w W' X d D := ⟨h.1.below hb, bthen h.2.1 hb, fun b hb' => Nat.lt_of_lt_of_le (h.2.2 b hb') hb.size⟩
theorem DvSt.drew {X : List Nat} (h : DvSt w W X d D) : DvSt w W.drew X d D := h.on (Below.refl _ _).drew
theorem Fr.box {X : List Nat} {B b : Nat} {t : TypeId} {cs : List Value} (hF : Fr (TX B X) W W') (hx : Box W b t cs) (hb : b ∈ X) : Box W' b t cs := hx.same (hF.same hx.lt fun ht => ht.2 hb)
/-- a variable beside the device: made, and laid -/
theorem DvSt.beside {X : List Nat} {w1 w2 : World} (h : DvSt w W X d D) (hB : Below W.heap.size W w1) (hs : w1.heap.size = W.heap.size + 1) (hg : w1.grownBy w2 (some W.heap.size)) : DvSt w w2 (W.heap.size :: X) d D := by
  have h1 : DevIs (TX w.heap.size (W.heap.size :: X)) W d D := h.1.shrink fun k hk ht => ⟨ht.1, fun hx => by rcases List.mem_cons.1 hx with hx | hx; omega; exact ht.2 hx⟩
  have h2 := below_stored hB hg (by omega) (Nat.le_refl _)
  refine ⟨h1.below h2, bthen h.2.1 h2, fun b hb => ?_⟩
  have := h2.size
  have hgs := hg.size
  rcases List.mem_cons.1 hb with rfl | hb
  · omega
  · have := h.2.2 b hb; omega
theorem dread_n {k : Nat} (a : Pl) (h : DvN k D) (hk : k ≤ 500) : DvN (k + 1) (readD D a).2.2 := by
  unfold readD
  split
  · exact h.mono (by omega)
  · split
    · exact h.refused hk
    · exact h.mono (by omega)
theorem DvSt.blk {X : List Nat} (h : DvSt w W X d D) : ∃ zv lb cv nb, DBlk W d D.conv D.soft D.seq D.size D.opn zv lb cv nb D.down D.armed D.ill := by
  obtain ⟨gz, cz, lb, cv, nb, hD, _⟩ := h.1
  exact ⟨_, lb, cv, nb, hD⟩
end
namespace Dev
def aw0 : Dv := newD 2 8 6 8 3 8
def aw1 : Dv := (writeD aw0 (2, 0, onepg 7)).2
def aw2 : Dv := (flushD aw1).2
def aw3 : Dv := (writeD aw2 (2, 1, onepg 8)).2
def aw4 : Dv := (readD aw3 (2, 1)).2.2
def aw5 : Dv := crashD aw4 [] 0 0
def aw6 : Dv := (readD aw5 (2, 0)).2.2
def aw7 : Dv := (readD aw6 (2, 1)).2.2
end Dev
theorem aw_ok : Ok 2 8 6 8 3 := by decide
theorem aw_n0 : DvN 0 aw0 := new_ok aw_ok rfl
theorem aw_n1 : DvN 1 aw1 := write_ok _ (onepg_length 7) aw_n0 (by omega)
theorem aw_n2 : DvN 2 aw2 := flush_ok aw_n1 (by omega)
theorem aw_n3 : DvN 3 aw3 := write_ok _ (onepg_length 8) aw_n2 (by omega)
theorem aw_n4 : DvN 4 aw4 := dread_n _ aw_n3 (by omega)
theorem aw_n5 : DvN 5 aw5 := crash_ok _ _ _ aw_n4 (by omega)
theorem aw_n6 : DvN 6 aw6 := dread_n _ aw_n5 (by omega)
theorem aw_n7 : DvN 7 aw7 := dread_n _ aw_n6 (by omega)
theorem aw_e1 : (writeD aw0 (2, 0, onepg 7)).1 = 0 := by decide +kernel
theorem aw_e2 : (flushD aw1).1 = 0 := by decide +kernel
theorem aw_e3 : (writeD aw2 (2, 1, onepg 8)).1 = 0 := by decide +kernel
theorem aw_e4 : (readD aw3 (2, 1)).2.1 = 0 ∧ (readD aw3 (2, 1)).1 = onepg 8 := by decide +kernel
theorem aw_e6 : (readD aw5 (2, 0)).2.1 = 0 ∧ (readD aw5 (2, 0)).1 = onepg 7 := by decide +kernel
theorem aw_e7 : (readD aw6 (2, 1)).2.1 = 4 ∧ (readD aw6 (2, 1)).1.length = 64 := by decide +kernel
theorem aw_e8 : aw7.ill = 1 := by decide +kernel

end Go.Proofs.Ythgjlofebicpiaa
namespace Go.Proofs.Ythgjlofebicpiaa
open Go.RowKit Geom Zone Dev
set_option linter.unusedVariables false

/-! the measure stays -/
namespace Dev
def Geo (D D' : Dv) : Prop := D'.conv = D.conv ∧ D'.seq = D.seq
theorem Geo.refl (D : Dv) : Geo D D := ⟨rfl, rfl⟩
theorem Geo.trans {A B C : Dv} (h : Geo A B) (k : Geo B C) : Geo A C := ⟨k.1.trans h.1, k.2.trans h.2⟩
theorem tick_geo (D : Dv) : Geo D (tick D) := by unfold tick; split <;> exact ⟨rfl, rfl⟩
theorem write_geo (D : Dv) (c : Wr) : Geo D (writeD D c).2 := by
  unfold writeD
  split
  · exact Geo.refl _
  · split
    · exact ⟨rfl, rfl⟩
    · exact Geo.trans ⟨rfl, rfl⟩ (tick_geo _)
theorem flush_geo (D : Dv) : Geo D (flushD D).2 := by
  unfold flushD
  split
  · exact Geo.refl _
  · exact Geo.trans ⟨rfl, rfl⟩ (tick_geo _)
theorem arm_geo (D : Dv) (n : Int) : Geo D (armD D n) := by unfold armD; split <;> exact ⟨rfl, rfl⟩
theorem finish_geo (D : Dv) (z : Int) : Geo D (finishD D z).2 := by
  unfold finishD
  split
  · exact Geo.refl _
  · split
    · exact ⟨rfl, rfl⟩
    · exact Geo.trans ⟨rfl, rfl⟩ (tick_geo _)
theorem reset_geo (D : Dv) (z : Int) : Geo D (resetD D z).2 := by
  unfold resetD
  split
  · exact Geo.refl _
  · split
    · exact ⟨rfl, rfl⟩
    · exact Geo.trans ⟨rfl, rfl⟩ (tick_geo _)
theorem crash_geo (D : Dv) (keep : List Int) (s t : Int) : Geo D (crashD D keep s t) := ⟨rfl, rfl⟩
theorem play_geo (D : Dv) (x : AD) : Geo D (playD D x).2 := by
  unfold playD
  split
  · exact reset_geo _ _
  · split
    · exact finish_geo _ _
    · split
      · exact flush_geo _
      · split
        · exact arm_geo _ _
        · split
          · exact crash_geo _ _ _ _
          · exact write_geo _ _
end Dev

section
variable {w W W' : World} {X : List Nat} {d d2 : Nat} {D D2 D' : Dv}
/-- two devices, apart from one another and from X -/
def TwoDev (w W : World) (X : List Nat) (d : Nat) (D : Dv) (d2 : Nat) (D2 : Dv) : Prop :=
  ∃ P1 P2 : Nat → Prop, (∀ k, P1 k → w.heap.size ≤ k ∧ k ∉ X ∧ k < W.heap.size) ∧ (∀ k, P2 k → w.heap.size ≤ k ∧ k ∉ X ∧ k < W.heap.size) ∧ (∀ k, P1 k → ¬ P2 k) ∧ DevIs P1 W d D ∧ DevIs P2 W d2 D2 ∧ Below w.heap.size w W ∧ ∀ b ∈ X, b < W.heap.size
theorem TwoDev.swap (h : TwoDev w W X d D d2 D2) : TwoDev w W X d2 D2 d D := by
  obtain ⟨P1, P2, h1, h2, h3, h4, h5, h6, h7⟩ := h
  exact ⟨P2, P1, h2, h1, fun k hk hk2 => h3 k hk2 hk, h5, h4, h6, h7⟩
/-- what a command of the one may touch -/
theorem TwoDev.step (h : TwoDev w W X d D d2 D2) : ∃ T : Nat → Prop, (∀ k, W.heap.size ≤ k → T k) ∧ DevIs T W d D ∧ (∀ k, T k → w.heap.size ≤ k ∧ k ∉ X) ∧
    ∀ W' D', DevIs T W' d D' → Fr T W W' → TwoDev w W' X d D' d2 D2 := by
  obtain ⟨P1, P2, h1, h2, h3, h4, h5, h6, h7⟩ := h
  refine ⟨fun k => P1 k ∨ W.heap.size ≤ k, fun k hk => .inr hk, h4.shrink fun k _ hk => .inl hk, fun k hk => ?_, fun W' D' hI hF => ?_⟩
  · rcases hk with hk | hk
    · exact ⟨(h1 k hk).1, (h1 k hk).2.1⟩
    · exact ⟨Nat.le_trans h6.size hk, fun hx => by have := h7 k hx; omega⟩
  · have hs := hF.size
    refine ⟨fun k => (P1 k ∨ W.heap.size ≤ k) ∧ k < W'.heap.size, P2, fun k hk => ?_, fun k hk => ⟨(h2 k hk).1, (h2 k hk).2.1, by have := (h2 k hk).2.2; omega⟩, fun k hk hk2 => ?_, hI.shrink fun k hk hk2 => ⟨hk2, hk⟩, h5.keep fun k hk hk2 => hF.same hk fun ht => ?_, h6.trans (hF.below h6.size fun k hk ht => ?_), fun b hb => Nat.lt_of_lt_of_le (h7 b hb) hs⟩
    · refine ⟨?_, ?_, hk.2⟩
      · rcases hk.1 with hk | hk
        · exact (h1 k hk).1
        · exact Nat.le_trans h6.size hk
      · rcases hk.1 with hk | hk
        · exact (h1 k hk).2.1
        · exact fun hx => by have := h7 k hx; omega
    · rcases hk.1 with hk | hk
      · exact h3 k hk hk2
      · have := (h2 k hk2).2.2; omega
    · rcases ht with ht | ht
      · exact h3 k ht hk2
      · omega
    · rcases ht with ht | ht
      · have := (h1 k ht).1; omega
      · have := h6.size; omega
theorem TwoDev.on (h : TwoDev w W X d D d2 D2) (hb : Below W.heap.size W W') : TwoDev w W' X d D d2 D2 := by
  obtain ⟨P1, P2, h1, h2, h3, h4, h5, h6, h7⟩ := h
  have hs := hb.size
  exact ⟨P1, P2, fun k hk => ⟨(h1 k hk).1, (h1 k hk).2.1, by have := (h1 k hk).2.2; omega⟩, fun k hk => ⟨(h2 k hk).1, (h2 k hk).2.1, by have := (h2 k hk).2.2; omega⟩, h3, h4.below hb, h5.below hb, bthen h6 hb, fun b hb' => Nat.lt_of_lt_of_le (h7 b hb') hs⟩
/-- a variable beside them -/
theorem TwoDev.beside {w1 w2 : World} (h : TwoDev w W X d D d2 D2) (hB : Below W.heap.size W w1) (hs : w1.heap.size = W.heap.size + 1) (hg : w1.grownBy w2 (some W.heap.size)) : TwoDev w w2 (W.heap.size :: X) d D d2 D2 := by
  have hb := below_stored hB hg (by omega) (Nat.le_refl _)
  have hgs := hg.size
  obtain ⟨P1, P2, h1, h2, h3, h4, h5, h6, h7⟩ := h
  refine ⟨P1, P2, fun k hk => ?_, fun k hk => ?_, h3, h4.below hb, h5.below hb, bthen h6 hb, fun b hb' => ?_⟩
  · obtain ⟨a1, a2, a3⟩ := h1 k hk
    exact ⟨a1, fun hx => by rcases List.mem_cons.1 hx with hx | hx; omega; exact a2 hx, by omega⟩
  · obtain ⟨a1, a2, a3⟩ := h2 k hk
    exact ⟨a1, fun hx => by rcases List.mem_cons.1 hx with hx | hx; omega; exact a2 hx, by omega⟩
  · rcases List.mem_cons.1 hb' with rfl | hb'
    · omega
    · have := h7 b hb'; omega
theorem TwoDev.less {b : Nat} (h : TwoDev w W (b :: X) d D d2 D2) : TwoDev w W X d D d2 D2 := by
  obtain ⟨P1, P2, h1, h2, h3, h4, h5, h6, h7⟩ := h
  exact ⟨P1, P2, fun k hk => ⟨(h1 k hk).1, fun hx => (h1 k hk).2.1 (List.mem_cons_of_mem _ hx), (h1 k hk).2.2⟩, fun k hk => ⟨(h2 k hk).1, fun hx => (h2 k hk).2.1 (List.mem_cons_of_mem _ hx), (h2 k hk).2.2⟩, h3, h4, h5, h6, fun b hb => h7 b (List.mem_cons_of_mem _ hb)⟩
/-- a clone, beside the one -/
theorem DvSt.two (h : DvSt w W X d D) (hI : DevIs (fun k => W.heap.size ≤ k) W' d2 D2) (hb : Below W.heap.size W W') : TwoDev w W' X d D d2 D2 := by
  have hs := hb.size
  refine ⟨fun k => TX w.heap.size X k ∧ k < W.heap.size, fun k => W.heap.size ≤ k ∧ k < W'.heap.size, fun k hk => ⟨hk.1.1, hk.1.2, by omega⟩, fun k hk => ⟨Nat.le_trans h.2.1.size hk.1, fun hx => by have := h.2.2 k hx; omega, hk.2⟩, fun k hk hk2 => by omega, (h.1.shrink (U := fun k => TX w.heap.size X k ∧ k < W.heap.size) fun k hk ht => ⟨ht, hk⟩).below hb, hI.shrink fun k hk hk2 => ⟨hk2, hk⟩, bthen h.2.1 hb, fun b hb' => Nat.lt_of_lt_of_le (h.2.2 b hb') hs⟩
theorem TwoDev.blk (h : TwoDev w W X d D d2 D2) : ∃ A n c cv, cv = .slice A n c ∧ n = D.cache.length ∧ ∃ zv lb nb, DBlk W d D.conv D.soft D.seq D.size D.opn zv lb cv nb D.down D.armed D.ill := by
  obtain ⟨P1, P2, h1, h2, h3, h4, h5, h6, h7⟩ := h
  obtain ⟨gz, cz, lb, cv, nb, hD, hown, hcv, _⟩ := h4
  obtain ⟨A, c, rfl⟩ := row_slice hcv
  exact ⟨A, _, c, _, rfl, rfl, _, lb, nb, hD⟩
theorem Fr.boxT {T : Nat → Prop} {b : Nat} {t : TypeId} {cs : List Value} (hF : Fr T W W') (hx : Box W b t cs) (hT : ∀ k, T k → w.heap.size ≤ k ∧ k ∉ X) (hb : b ∈ X) : Box W' b t cs := hx.same (hF.same hx.lt fun ht => (hT b ht).2 hb)
end

theorem flat_get {α : Type} (f : α → List Value) (m : Nat) : ∀ (xs : List α) (k j : Nat) (x : α), (∀ y ∈ xs, (f y).length = m) → xs[k]? = some x → j < m → (xs.flatMap f)[k * m + j]? = (f x)[j]?
  | [], k, j, x, _, h, _ => by simp at h
  | y :: xs, 0, j, x, hl, h, hj => by
    obtain rfl : y = x := by simpa using h
    rw [Nat.zero_mul, Nat.zero_add, List.flatMap_cons, List.getElem?_append_left (by rw [hl y (by simp)]; exact hj)]
  | y :: xs, k + 1, j, x, hl, h, hj => by
    have := flat_get f m xs k j x (fun z hz => hl z (List.mem_cons_of_mem _ hz)) (by simpa using h) hj
    rw [List.flatMap_cons, List.getElem?_append_right (by rw [hl y (by simp), Nat.add_mul]; omega), hl y (by simp), show (k + 1) * m + j - m = k * m + j by rw [Nat.add_mul]; omega, this]
/-- an element of many cells is read at once -/
theorem big_elem {α : Type} (P : Program) {w : World} {B : Nat} {A : Option Addr} {f : α → List Value} {xs : List α} {m : Nat} (hr : Rd w B A (xs.flatMap f)) (hl : ∀ y ∈ xs, (f y).length = m) (hm : 0 < m) (k : Nat) (x : α) (hx : xs[k]? = some x) :
    ∃ ad, A = some ad ∧ (loadCellsFrom (ad.add (k * m)) 0 m #[]).run P w = .ok (f x).toArray w := by
  have hxm : x ∈ xs := List.mem_of_getElem? hx
  have h0 : 0 < (f x).length := by rw [hl x hxm]; exact hm
  obtain ⟨ad, hA, _, _⟩ := hr.at (k := k * m + 0) (u := (f x)[0]) (by rw [flat_get f m xs k 0 x hl hx hm]; simp [h0])
  refine ⟨ad, hA, big_load P _ (f x) m (hl x hxm) w fun j v hj => ?_⟩
  have hjm : j < m := by
    have := (List.getElem?_eq_some_iff.1 hj).1
    rw [hl x hxm] at this
    exact this
  obtain ⟨ad', hA', _, hc⟩ := hr.at (k := k * m + j) (u := v) (by rw [flat_get f m xs k j x hl hx hjm]; exact hj)
  obtain rfl : ad = ad' := by rw [hA] at hA'; injection hA'
  rw [addr_add_add]
  exact hc
end Go.Proofs.Ythgjlofebicpiaa
namespace Go.Proofs.Ythgjlofebicpiaa
open Go.RowKit Geom Zone Dev
set_option linter.unusedVariables false

/-- what an act is, as it is handed in -/
structure AIn (w : World) (x : AD) : Prop where
  k0 : 0 ≤ x.k
  k1 : x.k < 256
  a1 : W64 x.a.1
  a2 : W64 x.a.2
  p : x.p.length = 64
  n : W64 x.n
  kr : Rd w w.heap.size x.keepA (ints x.keep)
  kl : x.keep.length = x.kn
  cap : x.kn ≤ x.kc
  mc : x.kc ≤ maxLen
  k64 : ∀ y ∈ x.keep, W64 y
  s0 : 0 ≤ x.soft0 ∧ x.soft0 < 18446744073709551616
  t : W64 x.tear
theorem keep_far {w : World} {A : Option Addr} {xs : List Value} {T : Nat → Prop} (hr : Rd w w.heap.size A xs) (hT : ∀ k, T k → w.heap.size ≤ k) : ∀ ad, A = some ad → xs ≠ [] → ¬ T ad.block := by
  intro ad hA hx ht
  obtain ⟨ad', hA', hlt, _⟩ := hr hx
  rw [hA] at hA'
  injection hA' with hA'
  subst hA'
  have := hT _ ht
  omega
theorem AIn.at {w W : World} {x : AD} {T : Nat → Prop} (h : AIn w x) (hb : Below w.heap.size w W) (hT : ∀ k, T k → w.heap.size ≤ k) : AOk T W x :=
  ⟨h.k0, h.k1, h.a1, h.a2, h.p, h.n, (h.kr.below hb).more hb.size, h.kl, h.cap, h.mc, h.k64, keep_far h.kr hT⟩
end Go.Proofs.Ythgjlofebicpiaa
namespace Go.Proofs.Ythgjlofebicpiaa
open Go.RowKit Geom Zone Dev
open Go.ChangeShapes Go.WideShapes
set_option linter.unusedVariables false

set_option maxRecDepth 100000 in
theorem open_geo64 {H : Type} {enc : TypeId × Value → H} {w : World} {base b0 : Nat} {r : Reach} {sp : Nat → Bool} {held : Bool} {v : Value} {d : DataW H} {ps : List MemPlace}
    (hu : Value.okWide Try.prog w r b0 23 v) (h : DataW.Trod enc Try.prog w base sp held 23 v d ps) :
    ∃ conv soft seq size opn : Int, v = .agg #[.int .i64 conv, .int .i64 soft, .int .i64 seq, .int .i64 size, .int .i64 opn] ∧ W64 conv ∧ W64 soft ∧ W64 seq ∧ W64 size ∧ W64 opn := by
  obtain ⟨cs, rfl, hs⟩ := has_agg (s := .pair 1 (.int .i64) (.pair 1 (.int .i64) (.pair 1 (.int .i64) (.pair 1 (.int .i64) (.pair 1 (.int .i64) .nil))))) 3 (by kernel_rfl) h hu (.inl ⟨_, Try.underlying23⟩)
  obtain ⟨_, _, rfl, _, ⟨conv, rfl, h1⟩, _, _, rfl, _, ⟨soft, rfl, h2⟩, _, _, rfl, _, ⟨seq, rfl, h3⟩, _, _, rfl, _, ⟨size, rfl, h4⟩, _, _, rfl, _, ⟨opn, rfl, h5⟩, rfl⟩ := hs
  exact ⟨conv, soft, seq, size, opn, rfl, h1, h2, h3, h4, h5⟩

abbrev shW : Sh := .pair 1 (.slice 1 (.int .i64)) (.pair 1 (.int .u64) (.pair 1 (.int .i64) .nil))
theorem has_wreck {w : World} {cs : List Value} (h : Has shW w cs) : ∃ (A : Option Addr) (n c : Nat) (keep : List Int) (s t : Int), cs = [.slice A n c, .int .u64 s, .int .i64 t] ∧ Rd w w.heap.size A (ints keep) ∧ keep.length = n ∧ n ≤ c ∧ c ≤ maxLen ∧ (∀ y ∈ keep, W64 y) ∧ W64 t ∧ (0 ≤ s ∧ s < 18446744073709551616) := by
  obtain ⟨_, _, rfl, _, h1, _, _, rfl, _, ⟨s, rfl, hs⟩, _, _, rfl, _, ⟨t, rfl, ht⟩, rfl⟩ := h
  obtain ⟨A, n, c, zs, rfl, h2, h3, h4, h5, h6⟩ := has_slice_ints h1
  simp [Lit.wf, IntKind.min, IntKind.max, IntKind.signed, IntKind.bits] at hs
  exact ⟨A, n, c, zs, s, t, rfl, h5, h4, h2, h3, h6, ht, by omega⟩
set_option maxRecDepth 100000 in
theorem open_wreck {H : Type} {enc : TypeId × Value → H} {w : World} {base b0 : Nat} {r : Reach} {sp : Nat → Bool} {held : Bool} {v : Value} {d : DataW H} {ps : List MemPlace}
    (hu : Value.okWide Try.prog w r b0 46 v) (h : DataW.Trod enc Try.prog w base sp held 46 v d ps) :
    ∃ (A : Option Addr) (n c : Nat) (keep : List Int) (s t : Int), v = .agg #[.slice A n c, .int .u64 s, .int .i64 t] ∧ Rd w w.heap.size A (ints keep) ∧ keep.length = n ∧ n ≤ c ∧ c ≤ maxLen ∧ (∀ y ∈ keep, W64 y) ∧ W64 t ∧ (0 ≤ s ∧ s < 18446744073709551616) := by
  obtain ⟨cs, rfl, hs⟩ := has_agg (s := shW) 4 (by kernel_rfl) h hu (.inl ⟨_, Try.underlying46⟩)
  obtain ⟨A, n, c, keep, s, t, rfl, hh⟩ := has_wreck hs
  exact ⟨A, n, c, keep, s, t, rfl, hh⟩

abbrev shP : Sh := .rep 64 1 (.int .u8)
abbrev shA : Sh := .pair 1 (.int .u8) (.pair 2 (.pair 1 (.int .i64) (.pair 1 (.int .i64) .nil)) (.pair 64 shP (.pair 1 (.int .i64) (.pair 3 shW .nil))))
theorem has_act {w : World} {cs : List Value} (h : Has shA w cs) : ∃ x : AD, cs = acs x ∧ AIn w x := by
  obtain ⟨_, _, rfl, _, ⟨k, rfl, hk⟩, _, _, rfl, _, ⟨_, _, rfl, _, ⟨a1, rfl, h1⟩, _, _, rfl, _, ⟨a2, rfl, h2⟩, rfl⟩, _, _, rfl, _, hp, _, _, rfl, _, ⟨n, rfl, hn⟩, _, _, rfl, _, hw, rfl⟩ := h
  obtain ⟨p, hpl, rfl, _⟩ := has_ints hp
  obtain ⟨A, kn, kc, keep, s, t, rfl, w1, w2, w3, w4, w5, w6, w7⟩ := has_wreck hw
  have hb := wf_byte hk
  exact ⟨⟨k, (a1, a2), p, n, A, kn, kc, keep, s, t⟩, by simp [acs, bs], hb.1, by show k < 256; omega, h1, h2, hpl, hn, w1, w2, w3, w4, w5, w7, w6⟩
theorem rows_acts {w : World} : ∀ rows : List (List Value), (∀ r ∈ rows, r.length = 71 ∧ Has shA w r) → ∃ xs : List AD, xs.length = rows.length ∧ rows.flatten = xs.flatMap acs ∧ ∀ x ∈ xs, AIn w x
  | [], _ => ⟨[], rfl, rfl, by simp⟩
  | r :: rows, h => by
    obtain ⟨xs, h1, h2, h3⟩ := rows_acts rows fun x hx => h x (List.mem_cons_of_mem _ hx)
    obtain ⟨x, hx, hi⟩ := has_act (h r List.mem_cons_self).2
    exact ⟨x :: xs, by simp [h1], by rw [List.flatten_cons, h2, hx]; rfl, fun y hy => by rcases List.mem_cons.1 hy with rfl | hy; exact hi; exact h3 y hy⟩
theorem rows_pages {w : World} : ∀ rows : List (List Value), (∀ r ∈ rows, r.length = 64 ∧ Has shP w r) → ∃ xs : List (List Int), xs.length = rows.length ∧ rows.flatten = xs.flatMap bs ∧ ∀ x ∈ xs, x.length = 64
  | [], _ => ⟨[], rfl, rfl, by simp⟩
  | r :: rows, h => by
    obtain ⟨xs, h1, h2, h3⟩ := rows_pages rows fun x hx => h x (List.mem_cons_of_mem _ hx)
    obtain ⟨p, hpl, hx, _⟩ := has_ints (h r List.mem_cons_self).2
    exact ⟨p :: xs, by simp [h1], by rw [List.flatten_cons, h2, hx]; rfl, fun y hy => by rcases List.mem_cons.1 hy with rfl | hy; exact hpl; exact h3 y hy⟩
end Go.Proofs.Ythgjlofebicpiaa

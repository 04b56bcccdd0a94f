/-
  Package snap: the snapshots in memory; New, Now, Last, Size.
-/
import Derived.Test.YtjjomfpkdbfhdaaSnC
namespace Go.Proofs.Ytjjomfpkdbfhdaa
open Go.RowKit Word Snap
set_option linter.unusedVariables false

abbrev scs (now g : Int) (b c : Nat) : List Value := [.int .i64 now, .int .i64 g, .map (some b), .map (some c)]
abbrev snp (d : Nat) : Value := .pointer (some ⟨d, 0, none⟩)
/-- block d is snapshots: of each block its last change in map b, what is kept in map c -/
structure SnRaw (w : World) (d b c m : Nat) (now g : Int) (lf : Int → Nat) (K : List Kp) : Prop where
  bx : Box w d 61 (scs now g b c)
  ls : ∃ f, MapIi w b m f ∧ ∀ z, (f z).getD (.int .i64 0) = .int .i64 (lf z : Int)
  kp : MapL w c m K
  ne : b ≠ c
theorem MapIi.ne_box {w : World} {b d m : Nat} {f : Int → Option Value} {T : TypeId} {cs : List Value} (h : MapIi w b m f) (hb : Box w d T cs) : d ≠ b := by
  rintro rfl
  obtain ⟨es, clock, h2⟩ := h.is_map
  unfold Box at hb
  rw [h2] at hb
  cases hb
theorem MapL.ne_box {w : World} {b d m : Nat} {K : List Kp} {T : TypeId} {cs : List Value} (h : MapL w b m K) (hb : Box w d T cs) : d ≠ b := by
  rintro rfl
  obtain ⟨es, clock, h2⟩ := h.is_map
  unfold Box at hb
  rw [h2] at hb
  cases hb
theorem map_cell {w : World} {b : Nat} {es : Array MapEntry} {clock : Nat} (h : w.heap[b]? = some (.map es clock)) (k : Nat) : w.cell? ⟨b, k, none⟩ = none := by
  unfold World.cell?
  simp [h]
/-- the blocks that it is -/
abbrev Tri (d b c : Nat) : Nat → Prop := fun k => k = d ∨ k = b ∨ k = c
section
variable {w w' : World} {d b c m : Nat} {now g : Int} {lf : Int → Nat} {K : List Kp}
theorem SnRaw.same (t : SnRaw w d b c m now g lf K) (hd : w'.heap[d]? = w.heap[d]?) (hb : w'.heap[b]? = w.heap[b]?) (hc : w'.heap[c]? = w.heap[c]?) : SnRaw w' d b c m now g lf K := by
  obtain ⟨f, h1, h2⟩ := t.ls
  exact ⟨t.bx.same hd, ⟨f, h1.same hb, h2⟩, t.kp.same hc, t.ne⟩
theorem SnRaw.lts (t : SnRaw w d b c m now g lf K) : d < w.heap.size ∧ b < w.heap.size ∧ c < w.heap.size := by
  obtain ⟨f, h1, h2⟩ := t.ls
  exact ⟨t.bx.lt, h1.lt, t.kp.lt⟩
theorem SnRaw.on (t : SnRaw w d b c m now g lf K) (h : Below w.heap.size w w') : SnRaw w' d b c m now g lf K := by
  obtain ⟨h1, h2, h3⟩ := t.lts
  exact t.same (h.block _ h1) (h.block _ h2) (h.block _ h3)
theorem SnRaw.beside {T : Nat → Prop} (t : SnRaw w d b c m now g lf K) (h : Fr T w w') (h1 : ¬ T d) (h2 : ¬ T b) (h3 : ¬ T c) : SnRaw w' d b c m now g lf K := by
  obtain ⟨l1, l2, l3⟩ := t.lts
  exact t.same (h.same l1 h1) (h.same l2 h2) (h.same l3 h3)
theorem SnRaw.drewN (t : SnRaw w d b c m now g lf K) (q : Nat) : SnRaw (w.drewN q) d b c m now g lf K := t.same rfl rfl rfl
theorem SnRaw.mono {m' : Nat} (t : SnRaw w d b c m now g lf K) (h : m ≤ m') : SnRaw w d b c m' now g lf K := by
  obtain ⟨f, h1, h2⟩ := t.ls
  exact ⟨t.bx, ⟨f, h1.mono h, h2⟩, t.kp.mono h, t.ne⟩
theorem SnRaw.apart (t : SnRaw w d b c m now g lf K) : d ≠ b ∧ d ≠ c ∧ b ≠ c := by
  obtain ⟨f, h1, h2⟩ := t.ls
  exact ⟨h1.ne_box t.bx, t.kp.ne_box t.bx, t.ne⟩
theorem SnRaw.mem (t : SnRaw w d b c m now g lf K) : w.cell? ⟨d, 0, none⟩ = some (.int .i64 now) ∧ w.cell? ⟨d, 1, none⟩ = some (.int .i64 g) ∧ w.cell? ⟨d, 2, none⟩ = some (.map (some b)) ∧ w.cell? ⟨d, 3, none⟩ = some (.map (some c)) := ⟨t.bx.cell 0, t.bx.cell 1, t.bx.cell 2, t.bx.cell 3⟩
theorem zero_i (w : World) : (zeroValue 3).run Try.prog w = .ok (.int .i64 0) w := by go_simp
theorem SnRaw.lastly (t : SnRaw w d b c m now g lf K) {z : Int} (h1 : W64 z) : (Instr.lookup 58 (.map (some b)) (ilv z) false).run Try.prog w = .ok (.int .i64 (lf z : Int)) w := by
  obtain ⟨f, h3, h4⟩ := t.ls
  rw [h3.look Try.underlying58 (zero_i w) h1, h4]
/-- rows that are no part of it -/
theorem SnRaw.row (t : SnRaw w d b c m now g lf K) {B : Nat} {l : List Ol} {ad : Addr} (hin : ∀ o ∈ l, OIn o) (hl : l ≠ []) (hr : Rd w B (some ad) (ols l)) : ¬ Tri d b c ad.block := by
  obtain ⟨o, ho⟩ : ∃ o, l[0]? = some o := by
    cases l with
    | nil => exact absurd rfl hl
    | cons x l => exact ⟨x, rfl⟩
  obtain ⟨f, h1, _⟩ := t.ls
  have hlen := ocs_len (hin o (List.mem_of_getElem? ho))
  have hcell : ∃ v, w.cell? (ad.add 33) = some v := by
    obtain ⟨v, hv⟩ : ∃ v, (ocs o)[33]? = some v := ⟨_, List.getElem?_eq_getElem (by omega)⟩
    have := hr.tail_at (k := 33) (u := v) (by simpa using ols_at hin ho hv)
    exact ⟨v, this⟩
  obtain ⟨v, hv⟩ := hcell
  have e : ad.add 33 = ⟨ad.block, ad.off + 33, none⟩ := by unfold Addr.add; simp
  rw [e] at hv
  rintro (h | h | h) <;> rw [h] at hv
  · rw [t.bx.cell] at hv
    simp at hv
  · obtain ⟨es, ck, h2⟩ := h1.is_map
    rw [map_cell h2] at hv
    cases hv
  · obtain ⟨es, ck, h2⟩ := t.kp.is_map
    rw [map_cell h2] at hv
    cases hv
end
theorem Rd.fr {T : Nat → Prop} {w w' : World} {B : Nat} {A : Option Addr} {xs : List Value} (h : Rd w B A xs) (hf : Fr T w w') (hB : B ≤ w.heap.size) (hn : ∀ ad, A = some ad → xs ≠ [] → ¬ T ad.block) : Rd w' B A xs := fun hx => by
  obtain ⟨ad, e, hb, hc⟩ := h hx
  refine ⟨ad, e, hb, fun j u hu => ?_⟩
  refine (hf.cell (by rw [addr_add_block]; omega) (by rw [addr_add_block]; exact hn ad e hx)).trans (hc j u hu)

set_option maxRecDepth 100000 in
theorem snow_any {d b c m : Nat} {now g : Int} {lf : Int → Nat} {K : List Kp} (w : World) (t : SnRaw w d b c m now g lf K) :
    Calls Try.prog 15 #[snp d] w fun e w' => e = .returned (.int .i64 now) ∧ w = w' := by
  obtain ⟨c0, c1, c2, c3⟩ := t.mem
  clear t
  go_enter Try.func15, Try.ntmps15
  go_wp2
  go_ret
  exact ⟨rfl, rfl⟩
set_option maxRecDepth 100000 in
theorem slast_any {d b c m : Nat} {now g : Int} {lf : Int → Nat} {K : List Kp} (w : World) (z : Int) (h1 : W64 z) (t : SnRaw w d b c m now g lf K) :
    Calls Try.prog 16 #[snp d, .int .i64 z] w fun e w' => e = .returned (.int .i64 (lf z : Int)) ∧ w = w' := by
  obtain ⟨c0, c1, c2, c3⟩ := t.mem
  have hlk := t.lastly h1
  clear t
  go_enter Try.func16, Try.ntmps16
  go_wp2
  go_ret
  exact ⟨rfl, rfl⟩
set_option maxRecDepth 100000 in
theorem ssize_any {d b c m : Nat} {now g : Int} {lf : Int → Nat} {K : List Kp} (w : World) (t : SnRaw w d b c m now g lf K) :
    Calls Try.prog 18 #[snp d] w fun e w' => e = .returned (.int .i64 (K.length : Int)) ∧ w = w' := by
  obtain ⟨c0, c1, c2, c3⟩ := t.mem
  have hlen := fun ty => t.kp.len Try.underlying59 ty
  clear t
  go_enter Try.func18, Try.ntmps18
  go_wp2
  go_ret
  exact ⟨rfl, rfl⟩
theorem snew_fin (w : World) (o : Obj) (ho : o = .cells (scs 0 0 w.heap.size (w.heap.size + 1)).toArray 61 (0, 0)) :
    SnRaw (((w.alloc (.map #[] 0)).alloc (.map #[] 0)).alloc o) (w.heap.size + 1 + 1) w.heap.size (w.heap.size + 1) 0 0 0 (fun _ => 0) [] ∧ Below w.heap.size w (((w.alloc (.map #[] 0)).alloc (.map #[] 0)).alloc o) := by
  subst ho
  have hB : Below w.heap.size w (((w.alloc (.map #[] 0)).alloc (.map #[] 0)).alloc (.cells (scs 0 0 w.heap.size (w.heap.size + 1)).toArray 61 (0, 0))) :=
    (((Below.refl _ _).alloc (Nat.le_refl _) _).alloc (by simp) _).alloc (by simp; omega) _
  have h1 : (w.alloc (.map #[] 0)).heap.size = w.heap.size + 1 := by simp
  have h2 : ((w.alloc (.map #[] 0)).alloc (.map #[] 0)).heap.size = w.heap.size + 1 + 1 := by simp
  have hm1 := MapIi.made w
  have hm2 := MapL.made (w.alloc (.map #[] 0))
  rw [h1] at hm2
  refine ⟨⟨?_, ⟨fun _ => none, ?_, fun z => rfl⟩, ?_, by omega⟩, hB⟩
  · have := Box.new ((w.alloc (.map #[] 0)).alloc (.map #[] 0)) 61 (scs 0 0 w.heap.size (w.heap.size + 1))
    rw [h2] at this
    exact this
  · exact hm1.same ((Below.heap_alloc _ _ _ (by omega)).trans (Below.heap_alloc _ _ _ (by omega)))
  · exact hm2.same (Below.heap_alloc _ _ _ (by omega))
set_option maxRecDepth 100000 in
theorem snew_raw (w : World) : Calls Try.prog 10 #[] w fun e w' => ∃ d b c, e = .returned (snp d) ∧ SnRaw w' d b c 0 0 0 (fun _ => 0) [] ∧ w.heap.size ≤ d ∧ w.heap.size ≤ b ∧ w.heap.size ≤ c ∧ Below w.heap.size w w' := by
  have hmm := @run_makeMap Try.prog
  go_enter Try.func10, Try.ntmps10
  go_wp2
  go_ret
  obtain ⟨h1, h2⟩ := snew_fin w _ rfl
  exact ⟨_, _, _, rfl, h1, by omega, by omega, by omega, h2⟩

/-- the snapshots of these commits, all up to g forgotten -/
structure SnIs (w : World) (d b c m : Nat) (all : List (List Ol)) (g : Nat) : Prop where
  raw : SnRaw w d b c m (all.length : Int) (g : Int) (fun z => lastN all z all.length) (kept all g)
  le : g ≤ all.length
theorem SnIs.on {w w' : World} {d b c m : Nat} {all : List (List Ol)} {g : Nat} (t : SnIs w d b c m all g) (h : Below w.heap.size w w') : SnIs w' d b c m all g := ⟨t.raw.on h, t.le⟩
theorem SnIs.beside {T : Nat → Prop} {w w' : World} {d b c m : Nat} {all : List (List Ol)} {g : Nat} (t : SnIs w d b c m all g) (h : Fr T w w') (h1 : ¬ T d) (h2 : ¬ T b) (h3 : ¬ T c) : SnIs w' d b c m all g := ⟨t.raw.beside h h1 h2 h3, t.le⟩
theorem snew_any (w : World) : Calls Try.prog 10 #[] w fun e w' => ∃ d b c, e = .returned (snp d) ∧ SnIs w' d b c 0 [] 0 ∧ w.heap.size ≤ d ∧ w.heap.size ≤ b ∧ w.heap.size ≤ c ∧ Below w.heap.size w w' :=
  (snew_raw w).mono fun e w' ⟨d, b, c, h1, h2, h3⟩ => ⟨d, b, c, h1, ⟨h2, Nat.le_refl _⟩, h3⟩
end Go.Proofs.Ytjjomfpkdbfhdaa

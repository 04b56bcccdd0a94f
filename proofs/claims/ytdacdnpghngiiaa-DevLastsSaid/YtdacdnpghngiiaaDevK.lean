/-
  Package dev: a device, said in one word; a crash.
-/
import Derived.Test.YtdacdnpghngiiaaDevJ
namespace Go.Proofs.Ytdacdnpghngiiaa
open Go.RowKit Geom Zone Dev
set_option linter.unusedVariables false

/-- where all orders of a region come to one end, but for what a call has made -/
def MeetE (A : World → Nat → Nat → Act) (W : World → Nat → Nat → World) (R : World → Nat → Nat → Prop) : Exit → Act → World → Prop
  | .normal, a, w => ∃ w5 g c, R w5 g c ∧ a = A w5 g c ∧ w = W w5 g c
  | _, _, _ => False
theorem wp_meetE {P : Program} {c : Code} {Q : Exit → Act → World → Prop} {a : Act} {w : World} {A : World → Nat → Nat → Act} {W : World → Nat → Nat → World} (R : World → Nat → Nat → Prop) (h : c.wp P (MeetE A W R) a w)
    (h2 : ∀ w5 g c, R w5 g c → Q .normal (A w5 g c) (W w5 g c)) : c.wp P Q a w :=
  Code.wp_mono (fun e a' w' hm => by
    cases e <;> first | exact (hm : False).elim | (obtain ⟨w5, g, c, hr, rfl, rfl⟩ := (hm : ∃ w5 g c, R w5 g c ∧ a' = A w5 g c ∧ w' = W w5 g c); exact h2 w5 g c hr)) h

section
variable {w : World} {d : Nat} {conv soft seq size opn : Int} {zv : Value} {lb : Nat} {cv : Value} {nb : Nat} {down : Bool} {armed ill : Int}
variable {n cz gz bl bt be bx bd bs' bw bk gk : Nat} {keepA : Option Addr} {kn kc : Nat} {keep : List Int} {soft0 tear : Int}

theorem LvI.dep {w' : World} {sf : Int} {kept : List Int} (h : LvI w d bd bs' bw bk gk keepA kn kc keep soft0 tear n sf kept) (e : ∀ x, x = bd ∨ x = bs' ∨ x = bw ∨ x = bk ∨ x = gk ∨ (∃ ad, keepA = some ad ∧ ints keep ≠ [] ∧ x = ad.block) → w'.heap[x]? = w.heap[x]?) :
    LvI w' d bd bs' bw bk gk keepA kn kc keep soft0 tear n sf kept := by
  obtain ⟨hb, hs', hw, hk, hrow, hkr, hkl, hk64, hk0, hap⟩ := h
  refine ⟨hb.same (e _ (.inl rfl)), hs'.same (e _ (.inr (.inl rfl))), hw.same (e _ (.inr (.inr (.inl rfl)))), hk.same (e _ (.inr (.inr (.inr (.inl rfl))))), own_same hrow fun g hg => e g (.inr (.inr (.inr (.inr (.inl ?_))))), ?_, hkl, hk64, hk0, hap⟩
  · injection hg with hg; exact hg.symm
  · intro hn
    obtain ⟨ad, ha, hl, hc⟩ := hkr hn
    have hc' : ∀ j u, (ints keep)[j]? = some u → w'.cell? (ad.add j) = some u := fun j u hu => (World.cell?_of_block (e _ (by rw [addr_add_block]; exact (.inr (.inr (.inr (.inr (.inr ⟨ad, ha, hn, rfl⟩)))))))).trans (hc j u hu)
    refine ⟨ad, ha, ?_, hc'⟩
    obtain ⟨x, r, hx⟩ : ∃ x r, ints keep = x :: r := by
      cases hk : ints keep with
      | nil => exact absurd hk hn
      | cons x r => exact ⟨x, r, rfl⟩
    have := World.block_lt_of_cell? w' (ad.add 0) (hc' 0 x (by rw [hx]; rfl))
    rwa [addr_add_block] at this

/-- the blocks that the closure of a crash looks at -/
def CrJ (gz bl bt be bx bd bs bw bk gk : Nat) (keepA : Option Addr) (keep : List Int) (k : Nat) : Prop :=
  k = gz ∨ k = bl ∨ k = bt ∨ k = be ∨ k = bx ∨ k = bd ∨ k = bs ∨ k = bw ∨ k = bk ∨ k = gk ∨ (∃ ad, keepA = some ad ∧ ints keep ≠ [] ∧ k = ad.block)
theorem CrI.dep {w' : World} {s : Cst} (h : CrI w d n cz gz bl bt be bx bd bs' bw bk gk keepA kn kc keep soft0 tear s) (e : ∀ k, CrJ gz bl bt be bx bd bs' bw bk gk keepA keep k → w'.heap[k]? = w.heap[k]?) :
    CrI w' d n cz gz bl bt be bx bd bs' bw bk gk keepA kn kc keep soft0 tear s := by
  obtain ⟨h1, h2, h3, h4, h5, h6, h7, h8, h9⟩ := h
  unfold CrJ at e
  refine ⟨h1.same (e _ (by simp)), h2.same (e _ (by simp)), h3.same (e _ (by simp)), h4.same (e _ (by simp)), h5.dep fun x hx => e x ?_, own_same h6 fun g hg => e g (by injection hg with hg; exact .inl hg.symm), h7, h8, h9⟩
  rcases hx with rfl | rfl | rfl | rfl | rfl | hx
  · simp
  · simp
  · simp
  · simp
  · simp
  · exact .inr (.inr (.inr (.inr (.inr (.inr (.inr (.inr (.inr (.inr hx)))))))))
end

namespace Dev
/-- a device, plainly -/
structure Dv where
  conv : Int
  soft : Int
  seq : Int
  size : Int
  opn : Int
  n : Nat
  L : List Z
  last : Pl → Option Value
  use : Nat
  cache : List Wr
  down : Bool
  armed : Int
  ill : Int
/-- a crash, plainly: what is left, what stands where; 'p': what stood at the last sector's place -/
def crashS (D : Dv) (keep : List Int) (soft0 : Int) : Cst × List Wr × (Pl → Option Value) :=
  stl (crs D.conv keep) D.cache (⟨soft0, List.replicate D.n 0, true, (0, 0, z64), D.L⟩, [], D.last)
end Dev
theorem wc_zero : (wc ((0, 0, z64) : Wr)).toArray = Try.zeroCells75 := by kernel_rfl

/-- 'Dev T w d D': block d is the device D, in blocks of T -/
def DevIs (T : Nat → Prop) (w : World) (d : Nat) (D : Dv) : Prop :=
  ∃ gz cz lb cv nb, DBlk w d D.conv D.soft D.seq D.size D.opn (.slice (some ⟨gz, 0, none⟩) D.n cz) lb cv nb D.down D.armed D.ill ∧ w.ownsRow 0 45 2 (.slice (some ⟨gz, 0, none⟩) D.n cz) D.n (zc D.L) ∧
    w.ownsRow 0 75 66 cv D.cache.length (wcs D.cache) ∧ MapIs w lb D.use D.last ∧ MapIs w nb D.cache.length (newestV D.cache) ∧ T d ∧ T gz ∧ T lb ∧ T nb ∧ (∀ g, cv.ownBlock = some g → T g) ∧ lb ≠ nb
/-- what all devices keep to -/
structure DvOk (D : Dv) : Prop where
  ok : Ok D.conv D.soft D.seq D.size D.opn
  ns : (D.n : Int) = D.conv + D.seq
  nl : D.n ≤ 1000
  fit : Fit D.conv D.seq D.size D.opn D.L
  wok : WOk D.cache
  place : ∀ c ∈ D.cache, 0 ≤ c.1 ∧ c.1 < D.n ∧ 0 ≤ c.2.1 ∧ c.2.1 < sectors D.conv D.soft D.seq D.size c.1
  pages : ∀ a v, D.last a = some v → ∃ p : List Int, p.length = 64 ∧ v = pgv p
  use : D.use ≤ 10000000
  cl : D.cache.length ≤ 100000
  ill0 : 0 ≤ D.ill
  ill1 : D.ill ≤ 1000000
  arm0 : 0 ≤ D.armed
  arm1 : D.armed ≤ 9223372036854775807
end Go.Proofs.Ytdacdnpghngiiaa

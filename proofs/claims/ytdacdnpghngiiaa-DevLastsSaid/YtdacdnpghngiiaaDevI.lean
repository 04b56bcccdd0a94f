/-
  Package dev: what a crash does with each cached sector.
-/
import Derived.Test.YtdacdnpghngiiaaDevH
namespace Go.Proofs.Ytdacdnpghngiiaa
open Go.RowKit Geom Zone Dev
set_option linter.unusedVariables false

namespace Dev
/-- what a crash goes by: the bits, the counts, whether the last sector was left, which it was, the zones -/
structure Cst where
  soft : Int
  kept : List Int
  left : Bool
  last : Wr
  L : List Z
def crs (conv : Int) (keep : List Int) (s : Cst) (c : Wr) : Int × Cst :=
  if (lvs conv keep s.soft s.kept c.1).1 = true then (1, ⟨(lvs conv keep s.soft s.kept c.1).2.1, (lvs conv keep s.soft s.kept c.1).2.2, true, c, s.L⟩)
  else (2, ⟨(lvs conv keep s.soft s.kept c.1).2.1, (lvs conv keep s.soft s.kept c.1).2.2, false, c, cutL s.L c.1 c.2.1⟩)
end Dev

/-- what the closure of a crash holds -/
def CrI (w : World) (d n cz gz bl bt be bx bd bs bw bk gk : Nat) (keepA : Option Addr) (kn kc : Nat) (keep : List Int) (soft0 tear : Int) (s : Cst) : Prop :=
  Box w bl 85 [.func (.func 67) #[] #[.pointer (some ⟨bd, 0, none⟩), .pointer (some ⟨bs, 0, none⟩), .pointer (some ⟨bw, 0, none⟩), .pointer (some ⟨bk, 0, none⟩)]] ∧
    Box w bt 75 (wc s.last) ∧ Box w be 4 [.bool s.left] ∧ Box w bx 32 [dp d] ∧ LvI w d bd bs bw bk gk keepA kn kc keep soft0 tear n s.soft s.kept ∧
    w.ownsRow 0 45 2 (.slice (some ⟨gz, 0, none⟩) n cz) n (zc s.L) ∧ s.L.length = n ∧ s.last.2.2.length = 64 ∧ (∀ ad, keepA = some ad → ints keep ≠ [] → ad.block ≠ bt ∧ ad.block ≠ be ∧ ad.block ≠ gz)

section
variable {w : World} {d : Nat} {conv soft seq size opn : Int} {zv : Value} {lb : Nat} {cv : Value} {nb : Nat} {down : Bool} {armed ill : Int}
variable {n cz gz bl bt be bx bd bs' bw bk gk : Nat} {keepA : Option Addr} {kn kc : Nat} {keep : List Int} {soft0 tear : Int}

theorem LvI.same {w' : World} {sf : Int} {kept : List Int} (h : LvI w d bd bs' bw bk gk keepA kn kc keep soft0 tear n sf kept) (hs : w.heap.size ≤ w'.heap.size) (e : ∀ x, x < w.heap.size → x = bd ∨ x = bs' ∨ x = bw ∨ x = bk ∨ x = gk ∨ (∃ ad, keepA = some ad ∧ ints keep ≠ [] ∧ x = ad.block) → w'.heap[x]? = w.heap[x]?) :
    LvI w' d bd bs' bw bk gk keepA kn kc keep soft0 tear n sf kept := by
  obtain ⟨hb, hs', hw, hk, hrow, hkr, hkl, hk64, hk0, hap⟩ := h
  refine ⟨hb.same (e _ hb.lt (.inl rfl)), hs'.same (e _ hs'.lt (.inr (.inl rfl))), hw.same (e _ hw.lt (.inr (.inr (.inl rfl)))), hk.same (e _ hk.lt (.inr (.inr (.inr (.inl rfl))))), own_same hrow fun g hg => e g (hrow.lt g hg).2 (.inr (.inr (.inr (.inr (.inl ?_))))), ?_, hkl, hk64, hk0, hap⟩
  · injection hg with hg; exact hg.symm
  · intro hn
    obtain ⟨ad, ha, hl, hc⟩ := hkr hn
    exact ⟨ad, ha, by omega, fun j u hu => (World.cell?_of_block (e _ (by rw [addr_add_block]; exact hl) (.inr (.inr (.inr (.inr (.inr ⟨ad, ha, hn, by rw [addr_add_block]⟩))))))).trans (hc j u hu)⟩

/-- behind the count: the last sector, and whether it was left, are laid -/
theorem CrI.laid {s : Cst} (h : CrI w d n cz gz bl bt be bx bd bs' bw bk gk keepA kn kc keep soft0 tear s) {w2 : World} {sf : Int} {kept : List Int} (hI : LvI w2 d bd bs' bw bk gk keepA kn kc keep soft0 tear n sf kept) (hF : Fr (fun k => k = bs' ∨ k = gk) w w2) (c : Wr) (hc : c.2.2.length = 64) (b : Bool) :
    CrI ((w2.setRow bt (wc c).toArray).setCell ⟨be, 0, none⟩ (.bool b)) d n cz gz bl bt be bx bd bs' bw bk gk keepA kn kc keep soft0 tear ⟨sf, kept, b, c, s.L⟩ ∧ w2.heap[bt]? = w.heap[bt]? ∧ (w2.setRow bt (wc c).toArray).heap[be]? = w.heap[be]? := by
  obtain ⟨h1, h2, h3, h4, h5, h6, h7, h8, h9⟩ := h
  obtain ⟨hb, hs', hw, hk, hrow, hkr, hkl, hk64, hk0, hap⟩ := h5
  have k1 : ∀ x, x < w.heap.size → x ≠ bs' → x ≠ gk → w2.heap[x]? = w.heap[x]? := fun x hx e1 e2 => hF.same hx (fun h => h.elim e1 e2)
  have t1 := k1 bl h1.lt (h1.ne hs' (by decide)) (h1.ne_row hrow rfl (by decide))
  have t2 := k1 bt h2.lt (h2.ne hs' (by decide)) (h2.ne_row hrow rfl (by decide))
  have t3 := k1 be h3.lt (h3.ne hs' (by decide)) (h3.ne_row hrow rfl (by decide))
  have t4 := k1 bx h4.lt (h4.ne hs' (by decide)) (h4.ne_row hrow rfl (by decide))
  have gzl := (h6.lt gz rfl).2
  have gzs : gz ≠ bs' := fun e => hs'.ne_row h6 rfl (by decide) e.symm
  have gzk : gz ≠ gk := by
    rintro rfl
    obtain ⟨_, c1, e1⟩ := own_type h6 rfl
    obtain ⟨_, c2, e2⟩ := own_type hrow rfl
    rw [e1] at e2
    injection e2 with e2
    injection e2 with _ e2
    exact absurd e2 (by decide)
  have t6 := k1 gz gzl gzs gzk
  have ne1 : be ≠ bt := h3.ne h2 (by decide)
  have s1 : ∀ x, x ≠ bt → (w2.setRow bt (wc c).toArray).heap[x]? = w2.heap[x]? := fun x hx => setRow_other _ _ _ _ hx
  have s2 : ∀ x, x ≠ be → ((w2.setRow bt (wc c).toArray).setCell ⟨be, 0, none⟩ (.bool b)).heap[x]? = (w2.setRow bt (wc c).toArray).heap[x]? := fun x hx => heap_setCell_other _ _ _ _ hx
  have s3 : ∀ x, x ≠ bt → x ≠ be → ((w2.setRow bt (wc c).toArray).setCell ⟨be, 0, none⟩ (.bool b)).heap[x]? = w2.heap[x]? := fun x e1 e2 => (s2 x e2).trans (s1 x e1)
  have hbe : Box (w2.setRow bt (wc c).toArray) be 4 [.bool s.left] := h3.same ((s1 be ne1).trans t3)
  refine ⟨⟨h1.same ((s3 bl (h1.ne h2 (by decide)) (h1.ne h3 (by decide))).trans t1), ?_, ?_, h4.same ((s3 bx (h4.ne h2 (by decide)) (h4.ne h3 (by decide))).trans t4), ?_, ?_, h7, hc, h9⟩, t2, (s1 be ne1).trans t3⟩
  · refine Box.same (w := w2.setRow bt (wc c).toArray) ?_ (s2 bt ne1.symm)
    exact setRow_heap w2 bt _ _ _ _ (t2.trans h2)
  · exact hbe.set 0 (.bool b)
  · obtain ⟨hb2, hs2, hw2, hk2, hrow2, _⟩ := id hI
    refine hI.same (by simp [World.setCell]) fun x hx hh => s3 x ?_ ?_
    · have hbt : Box w2 bt 75 (wc s.last) := h2.same t2
      rcases hh with rfl | rfl | rfl | rfl | rfl | ⟨ad, ha, hn, rfl⟩
      · exact (hb2.ne hbt (by decide))
      · exact (hs2.ne hbt (by decide))
      · exact (hw2.ne hbt (by decide))
      · exact (hk2.ne hbt (by decide))
      · exact fun e => hbt.ne_row hrow2 rfl (by decide) e.symm
      · exact (h9 ad ha hn).1
    · have hbt : Box w2 be 4 [.bool s.left] := h3.same t3
      rcases hh with rfl | rfl | rfl | rfl | rfl | ⟨ad, ha, hn, rfl⟩
      · exact (hb2.ne hbt (by decide))
      · exact (hs2.ne hbt (by decide))
      · exact (hw2.ne hbt (by decide))
      · exact (hk2.ne hbt (by decide))
      · exact fun e => hbt.ne_row hrow2 rfl (by decide) e.symm
      · exact (h9 ad ha hn).2.1
  · exact own_same h6 fun g hg => by
      injection hg with hg
      have hg : gz = g := hg
      subst hg
      exact (s3 gz (fun e => h2.ne_row h6 rfl (by decide) e.symm) (fun e => h3.ne_row h6 rfl (by decide) e.symm)).trans t6

set_option maxRecDepth 100000 in
set_option maxHeartbeats 4000000 in
theorem crash1_any (s : Cst) (c : Wr) (hc : c.2.2.length = 64) (h0 : 0 ≤ c.1) (h1 : c.1 < n) (ho0 : 0 ≤ c.2.1) (ho1 : c.2.1 ≤ 65536) (hcv0 : 0 ≤ conv) (hcv1 : conv ≤ 1000) (hcap : kn ≤ kc) (hkc : kc ≤ maxLen) (hnl : n ≤ 1000)
    (hD : DBlk w d conv soft seq size opn (.slice (some ⟨gz, 0, none⟩) n cz) lb cv nb down armed ill) (hI : CrI w d n cz gz bl bt be bx bd bs' bw bk gk keepA kn kc keep soft0 tear s) :
    Calls Try.prog 40 (#[.agg (wc c).toArray] ++ #[.pointer (some ⟨bl, 0, none⟩), .pointer (some ⟨bt, 0, none⟩), .pointer (some ⟨be, 0, none⟩), .pointer (some ⟨bx, 0, none⟩)]) w fun e w' =>
      e = .returned (.int .i64 (crs conv keep s c).1) ∧ CrI w' d n cz gz bl bt be bx bd bs' bw bk gk keepA kn kc keep soft0 tear (crs conv keep s c).2 ∧ Fr (fun k => k = bs' ∨ k = gk ∨ k = bt ∨ k = be ∨ k = gz) w w' := by
  have hlen : (wc c).length = 66 := wc_length hc
  obtain ⟨m, hm66, hsz⟩ := big_size (P := Try.prog) (t := 75) (s := 66) (by kernel_rfl)
  have hlenm : (wc c).length = m := by rw [hlen, hm66]
  obtain ⟨w1, hw1⟩ : ∃ w1, w1 = w.alloc (.cells (wc c).toArray 75) := ⟨_, rfl⟩
  have hs1 : ∀ x, x < w.heap.size → w1.heap[x]? = w.heap[x]? := fun x hx => by rw [hw1]; exact Below.heap_alloc _ _ _ hx
  have hz1 : w1.heap.size = w.heap.size + 1 := by rw [hw1]; simp
  have hD1 : DBlk w1 d conv soft seq size opn (.slice (some ⟨gz, 0, none⟩) n cz) lb cv nb down armed ill := hD.same (hs1 _ hD.lt)
  have hI1 : CrI w1 d n cz gz bl bt be bx bd bs' bw bk gk keepA kn kc keep soft0 tear s := by
    obtain ⟨h1, h2, h3, h4, h5, h6, h7, h8, h9⟩ := hI
    exact ⟨h1.same (hs1 _ h1.lt), h2.same (hs1 _ h2.lt), h3.same (hs1 _ h3.lt), h4.same (hs1 _ h4.lt), h5.same (by omega) (fun x hx _ => hs1 x hx), own_same h6 fun g hg => hs1 g (h6.lt g hg).2, h7, h8, h9⟩
  have hbx : w1.rangeAt w.heap.size 0 (wc c) := fun j v hj => by rw [Nat.zero_add, hw1]; exact box_cells w _ _ j v hj
  have hF1 : Fr (fun k => k = bs' ∨ k = gk ∨ k = bt ∨ k = be ∨ k = gz) w w1 := by rw [hw1]; exact (Fr.refl w).alloc _
  have hlt : bl < w.heap.size ∧ bt < w.heap.size ∧ be < w.heap.size ∧ bx < w.heap.size ∧ bs' < w.heap.size ∧ gk < w.heap.size ∧ gz < w.heap.size ∧ d < w.heap.size := by
    obtain ⟨h1, h2, h3, h4, h5, h6, h7, h8, h9⟩ := hI
    exact ⟨h1.lt, h2.lt, h3.lt, h4.lt, h5.2.1.lt, (h5.2.2.2.2.1.lt gk rfl).2, (h6.lt gz rfl).2, hD.lt⟩
  have hcl := hI1.1.cell 0
  -- the counting closure, in the world that it is called in
  have hL := leavesF_any (w := w1.drew) c hc h0 (by omega) hcv0 hcv1 (by omega) hcap hkc hnl (hD := hD1) (hI := hI1.2.2.2.2.1)
  generalize hr : lvs conv keep s.soft s.kept c.1 = r at hL
  obtain ⟨rb, rs, rk⟩ := r
  have hcr : crs conv keep s c = if rb = true then (1, ⟨rs, rk, true, c, s.L⟩) else (2, ⟨rs, rk, false, c, cutL s.L c.1 c.2.1⟩) := by unfold crs; rw [hr]
  rw [hcr]
  -- what follows it
  have HT : ∀ w2, LvI w2 d bd bs' bw bk gk keepA kn kc keep soft0 tear n rs rk → Fr (fun k => k = bs' ∨ k = gk) w1.drew w2 →
      CrI ((w2.setRow bt (wc c).toArray).setCell ⟨be, 0, none⟩ (.bool rb)) d n cz gz bl bt be bx bd bs' bw bk gk keepA kn kc keep soft0 tear ⟨rs, rk, rb, c, s.L⟩ ∧
      (storeCells ⟨bt, 0, none⟩ (wc c) 0).run Try.prog w2 = .ok () (w2.setRow bt (wc c).toArray) ∧ (w2.setRow bt (wc c).toArray).cell? ⟨be, 0, none⟩ = some (.bool s.left) ∧ (w2.setRow bt (wc c).toArray).frozen? ⟨be, 0, none⟩ = false ∧
      Fr (fun k => k = bs' ∨ k = gk ∨ k = bt ∨ k = be ∨ k = gz) w1 w2 := by
    intro w2 hI2 hF2
    obtain ⟨k1, k2, k3⟩ := CrI.laid (w := w1.drew) hI1 hI2 hF2 c hc rb
    have hbe : Box (w2.setRow bt (wc c).toArray) be 4 [.bool s.left] := hI1.2.2.1.same k3
    refine ⟨k1, big_store _ w2 bt _ 75 _ _ (k2.trans hI1.2.1) (by rw [hlen]; kernel_rfl) (by simp [wc_length hI1.2.2.2.2.2.2.2.1, hlen]) (fun u hu => wc_cells hu), hbe.cell 0, hbe.frozen 0, (Fr.refl w1).drew.trans (hF2.mono fun k _ h => h.elim .inl fun h => .inr (.inl h))⟩
  have HT := Lib.hid HT
  have hL2 : Calls Try.prog 67 #[.agg (wc c).toArray, .pointer (some ⟨bd, 0, none⟩), .pointer (some ⟨bs', 0, none⟩), .pointer (some ⟨bw, 0, none⟩), .pointer (some ⟨bk, 0, none⟩)] w1.drew fun e w' =>
      e = .returned (.bool rb) ∧ LvI w' d bd bs' bw bk gk keepA kn kc keep soft0 tear n rs rk ∧ Fr (fun k => k = bs' ∨ k = gk) w1.drew w' := hL
  have HL := Lib.hid hL2
  clear hL2
  have hSO : ∀ w', Fr (fun k => k = bs' ∨ k = gk ∨ k = bt ∨ k = be ∨ k = gz) w1 w' → w'.cell? ⟨bl, 0, none⟩ = some (.func (.func 67) #[] #[.pointer (some ⟨bd, 0, none⟩), .pointer (some ⟨bs', 0, none⟩), .pointer (some ⟨bw, 0, none⟩), .pointer (some ⟨bk, 0, none⟩)]) ∧ w'.rangeAt w.heap.size 0 (wc c) := by
    intro w' hf
    have hrow := hI1.2.2.2.2.2.1
    have hrk := hI1.2.2.2.2.1.2.2.2.2.1
    refine ⟨(hf.cell (a := ⟨bl, 0, none⟩) (by have := hlt.1; simp; omega) (fun h => ?_)).trans hcl, fun j v hj => (hf.cell (a := ⟨w.heap.size, 0 + j, none⟩) (by simp; omega) (fun h => ?_)).trans (hbx j v hj)⟩
    · have h2 := hI1.1
      rcases h with h | h | h | h | h
      · exact h2.ne hI1.2.2.2.2.1.2.1 (by decide) h
      · exact h2.ne_row hrk rfl (by decide) h
      · exact h2.ne hI1.2.1 (by decide) h
      · exact h2.ne hI1.2.2.1 (by decide) h
      · exact h2.ne_row hrow rfl (by decide) h
    · simp only at h
      omega
  have SO := Lib.hid hSO
  have hld : ∀ w', w'.rangeAt w.heap.size 0 (wc c) → (loadCellsFrom ⟨w.heap.size, 0, none⟩ 0 m #[]).run Try.prog w' = .ok (wc c).toArray w' := fun w' h => big_load0 Try.prog w.heap.size 0 (wc c) m hlenm w' h
  have HA := Lib.hid (And.intro hD1 (And.intro hI1 (And.intro hbx (And.intro hF1 (And.intro hlt (And.intro hz1 (And.intro hlen hm66)))))))
  have HW := Lib.hid hw1
  clear hD1 hI1 hbx hF1 hlt hz1 hlen hm66 hs1 hcl hL hSO hr hcr hI hD
  go_enter Try.func40, Try.ntmps40
  go_wp2_with fail
  rw [← hw1]
  clear hw1
  go_region_held3 (fun w' => w'.cell? ⟨bl, 0, none⟩ = some (.func (.func 67) #[] #[.pointer (some ⟨bd, 0, none⟩), .pointer (some ⟨bs', 0, none⟩), .pointer (some ⟨bw, 0, none⟩), .pointer (some ⟨bk, 0, none⟩)]) ∧ w'.rangeAt w.heap.size 0 (wc c))
    (first | exact SO.out _ (Fr.refl w1).drew | exact SO.out _ G2 | exact SO.out _ (G2.setRow _ _ (.inr (.inr (.inl rfl)))) | exact SO.out _ ((G2.setRow _ _ (.inr (.inr (.inl rfl)))).setCell _ _ (.inr (.inr (.inr (.inl rfl))))))
    (((with_reducible refine HL.out.mono ?_); rintro e w2 ⟨rfl, hI2, hF2⟩; obtain ⟨K1, hst, ce, fe, G2⟩ := HT.out w2 hI2 hF2))
  obtain ⟨hD1, hI1, hbx, hF1, hlt, hz1, hlen, hm66⟩ := HA.out
  have G3 := (G2.setRow bt (wc c).toArray (.inr (.inr (.inl rfl)))).setCell ⟨be, 0, none⟩ (.bool rb) (.inr (.inr (.inr (.inl rfl))))
  generalize (w2.setRow bt (wc c).toArray).setCell ⟨be, 0, none⟩ (.bool rb) = W3 at K1 G3 ⊢
  have S3 := SO.out W3 G3
  have hD3 : DBlk W3 d conv soft seq size opn (.slice (some ⟨gz, 0, none⟩) n cz) lb cv nb down armed ill := by
    have hrk := hI1.2.2.2.2.1.2.2.2.2.1
    have hrow := hI1.2.2.2.2.2.1
    refine hD1.same (G3.same (by omega) ?_)
    have hdB : Box w1 d 70 (dcs conv soft seq size opn (.slice (some ⟨gz, 0, none⟩) n cz) lb cv nb down armed ill).toList := hD1
    rintro (h | h | h | h | h)
    · exact hdB.ne hI1.2.2.2.2.1.2.1 (by decide) h
    · exact hdB.ne_row hrk rfl (by decide) h
    · exact hdB.ne hI1.2.1 (by decide) h
    · exact hdB.ne hI1.2.2.1 (by decide) h
    · exact hdB.ne_row hrow rfl (by decide) h
  have ce3 : W3.cell? ⟨be, 0, none⟩ = some (.bool rb) := K1.2.2.1.cell 0
  have cx3 : W3.cell? ⟨bx, 0, none⟩ = some (dp d) := K1.2.2.2.1.cell 0
  have q0 : W3.cell? ⟨w.heap.size, 0, none⟩ = some (.int .i64 c.1) := S3.2 0 _ rfl
  have q1 : W3.cell? ⟨w.heap.size, 1, none⟩ = some (.int .i64 c.2.1) := S3.2 1 _ rfl
  have HK := Lib.hid (And.intro K1 (And.intro (hF1.trans G3) hD3))
  clear K1 G3 G2 S3 hD3 hD1 hI1 hbx hF1 hlt hz1 hlen hm66 HA hI2 hF2 hst ce fe hld SO HT HL
  by_cases hb : rb = true
  · subst hb
    go_wp2
    go_ret
    exact ⟨rfl, HK.out.1, HK.out.2.1⟩
  · obtain rfl : rb = false := by simpa using hb
    obtain ⟨hK1, hK2, hK3⟩ := HK.out
    have hcut := cut_any gz n cz s.L c.1 c.2.1 h0 h1 hnl ho0 ho1 hK3 hK1.2.2.2.2.2.1 hK1.2.2.2.2.2.2.1
    have HC := Lib.hid hcut
    clear hcut hK1 hK2 hK3 h0 h1 ho0 ho1
    go_wp2_with fail
    refine HC.out.mono ?_
    rintro e w5 ⟨rfl, hown5, hf5⟩
    have HX := Lib.hid (And.intro hown5 hf5)
    clear hown5 hf5
    go_wp2
    go_ret
    obtain ⟨⟨k1, k2, k3, k4, k5, k6, k7, k8, k9⟩, hK2, hK3⟩ := HK.out
    obtain ⟨hown5, hf5⟩ := HX.out
    have hne : ∀ {b T cs}, Box W3 b T cs → T ≠ 45 → b ≠ gz := fun h hT => h.ne_row k6 rfl hT
    have hk := k5
    obtain ⟨hb1, hb2, hb3, hb4, hb5, _⟩ := hk
    refine ⟨rfl, ⟨k1.same (hf5.same k1.lt (hne k1 (by decide))), k2.same (hf5.same k2.lt (hne k2 (by decide))), k3.same (hf5.same k3.lt (hne k3 (by decide))), k4.same (hf5.same k4.lt (hne k4 (by decide))), ?_, hown5, ?_, k8, k9⟩, hK2.trans (hf5.mono fun k _ h => .inr (.inr (.inr (.inr h))))⟩
    · refine k5.same hf5.size fun x hx hh => hf5.same hx ?_
      rcases hh with rfl | rfl | rfl | rfl | rfl | ⟨ad, ha, hn, rfl⟩
      · exact hne hb1 (by decide)
      · exact hne hb2 (by decide)
      · exact hne hb3 (by decide)
      · exact hne hb4 (by decide)
      · rintro rfl
        obtain ⟨_, c1, e1⟩ := own_type k6 rfl
        obtain ⟨_, c2, e2⟩ := own_type hb5 rfl
        rw [e1] at e2
        injection e2 with e2
        injection e2 with _ e2
        exact absurd e2 (by decide)
      · exact (k9 ad ha hn).2.2
    · show (cutL s.L c.1 c.2.1).length = n
      unfold cutL
      split
      · exact k7
      · split
        · rw [List.length_set]; exact k7
        · rw [List.length_set]; exact k7
end
end Go.Proofs.Ytdacdnpghngiiaa

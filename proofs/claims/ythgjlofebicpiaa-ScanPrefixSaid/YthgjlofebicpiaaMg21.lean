/-
  DevF
-/
import Derived.Test.YthgjlofebicpiaaMg19
import Derived.Test.YthgjlofebicpiaaMg20
import Derived.Test.YthgjlofebicpiaaMg07
/-
  Package dev: what a crash leaves: the closure that counts; a pointer that is set back.
-/
namespace Go.Proofs.Ythgjlofebicpiaa
open Go.RowKit Geom Zone Dev
set_option linter.unusedVariables false

/-- the lowest bit goes to the top -/
def Dev.rot (x : Int) : Int := bits BinOp.or IntKind.u64 (IntKind.u64.wrap (x * 9223372036854775808)) (x / 2)
theorem rot_any (x : Int) (w : World) :
    Calls Try.prog 60 #[.int .u64 x, .int .i64 (-1)] w fun e w' => e = .returned (.int .u64 (Dev.rot x)) ∧ w = w' := by
  have h63 : bits BinOp.and IntKind.u64 (IntKind.u64.wrap (-1)) 63 = 63 := by decide
  go_enter Try.func60, Try.ntmps60
  go_wp2
  go_ret
  exact ⟨rfl, rfl⟩

abbrev ints (l : List Int) : List Value := l.map (Value.int .i64)
/-- what the closure that counts holds -/
def LvI (w : World) (d bd bs bw bk gk : Nat) (keepA : Option Addr) (kn kc : Nat) (keep : List Int) (soft0 tear : Int) (n : Nat) (soft : Int) (kept : List Int) : Prop :=
  Box w bd 27 [dp d] ∧ Box w bs 44 [.int .u64 soft] ∧ Box w bw 46 [.slice keepA kn kc, .int .u64 soft0, .int .i64 tear] ∧ Box w bk 43 [.slice (some ⟨gk, 0, none⟩) n n] ∧
    w.ownsRow 0 3 1 (.slice (some ⟨gk, 0, none⟩) n n) n (ints kept) ∧ Rd w w.heap.size keepA (ints keep) ∧ keep.length = kn ∧ (∀ x ∈ keep, W64 x) ∧ (∀ x ∈ kept, 0 ≤ x) ∧ (∀ ad, keepA = some ad → ints keep ≠ [] → ad.block ≠ bs ∧ ad.block ≠ gk)

namespace Dev
/-- is a sector left? and the counts then -/
def lvs (conv : Int) (keep : List Int) (soft : Int) (kept : List Int) (zone : Int) : Bool × Int × List Int :=
  if zone < conv then (bits BinOp.and IntKind.u64 soft 1 == 1, rot soft, kept)
  else if keep.length ≤ (zone - conv).toNat ∨ keep.getD (zone - conv).toNat 0 ≤ kept.getD (zone - conv).toNat 0 then (false, soft, kept)
  else (true, soft, kept.set (zone - conv).toNat (kept.getD (zone - conv).toNat 0 + 1))
end Dev

section
variable {w : World} {d : Nat} {conv soft seq size opn : Int} {zv : Value} {lb : Nat} {cv : Value} {nb : Nat} {down : Bool} {armed ill : Int}
variable {bd bs' bw bk gk : Nat} {keepA : Option Addr} {kn kc : Nat} {keep : List Int} {soft0 tear : Int} {n : Nat} {sf : Int} {kept : List Int}
theorem LvI.setSoft (h : LvI w d bd bs' bw bk gk keepA kn kc keep soft0 tear n sf kept) (r : Int) : LvI (w.setCell ⟨bs', 0, none⟩ (.int .u64 r)) d bd bs' bw bk gk keepA kn kc keep soft0 tear n r kept := by
  obtain ⟨hb, hs, hw, hk, hrow, hkr, hkl, hk64, hk0, hap⟩ := h
  have e : ∀ x, x ≠ bs' → (w.setCell ⟨bs', 0, none⟩ (.int .u64 r)).heap[x]? = w.heap[x]? := fun x hx => heap_setCell_other _ _ _ _ hx
  have hz : (w.setCell ⟨bs', 0, none⟩ (.int .u64 r)).heap.size = w.heap.size := by simp [World.setCell]
  refine ⟨hb.same (e _ (hb.ne hs (by decide))), hs.set 0 _, hw.same (e _ (hw.ne hs (by decide))), hk.same (e _ (hk.ne hs (by decide))), own_same hrow fun g hg => e g (fun h => hs.ne_row hrow hg (by decide) h.symm), ?_, hkl, hk64, hk0, hap⟩
  rw [hz]
  intro hn
  obtain ⟨ad, ha, hl, hc⟩ := hkr hn
  exact ⟨ad, ha, hl, fun j u hu => (World.cell?_of_block (e _ (by rw [addr_add_block]; exact (hap ad ha hn).1))).trans (hc j u hu)⟩
theorem LvI.setKept (h : LvI w d bd bs' bw bk gk keepA kn kc keep soft0 tear n sf kept) (k : Nat) (x : Int) (hx : 0 ≤ x) : LvI (w.setCell ⟨gk, k, none⟩ (.int .i64 x)) d bd bs' bw bk gk keepA kn kc keep soft0 tear n sf (kept.set k x) := by
  obtain ⟨hb, hs, hw, hk, hrow, hkr, hkl, hk64, hk0, hap⟩ := h
  have e : ∀ y, y ≠ gk → (w.setCell ⟨gk, k, none⟩ (.int .i64 x)).heap[y]? = w.heap[y]? := fun y hy => heap_setCell_other _ _ _ _ hy
  have hz : (w.setCell ⟨gk, k, none⟩ (.int .i64 x)).heap.size = w.heap.size := by simp [World.setCell]
  have hr := (hrow.stored k (.int .i64 x)).1
  refine ⟨hb.same (e _ (hb.ne_row hrow rfl (by decide))), hs.same (e _ (hs.ne_row hrow rfl (by decide))), hw.same (e _ (hw.ne_row hrow rfl (by decide))), hk.same (e _ (hk.ne_row hrow rfl (by decide))), ?_, ?_, hkl, hk64, ?_, hap⟩
  · rw [show ints (kept.set k x) = (ints kept).set k (.int .i64 x) by simp [ints, List.map_set]]
    exact hr
  · rw [hz]
    intro hn
    obtain ⟨ad, ha, hl, hc⟩ := hkr hn
    exact ⟨ad, ha, hl, fun j u hu => (World.cell?_of_block (e _ (by rw [addr_add_block]; exact (hap ad ha hn).2))).trans (hc j u hu)⟩
  · intro y hy
    rcases List.mem_or_eq_of_mem_set hy with hy | rfl
    · exact hk0 y hy
    · exact hx
set_option maxRecDepth 100000 in
theorem leaves_soft (c : Wr) (hc : c.2.2.length = 64) (h0 : 0 ≤ c.1) (h1 : c.1 < conv) (h2 : conv ≤ 1000) (hD : DBlk w d conv soft seq size opn zv lb cv nb down armed ill) (hI : LvI w d bd bs' bw bk gk keepA kn kc keep soft0 tear n sf kept) :
    Calls Try.prog 59 (#[.agg (wc c).toArray] ++ #[.pointer (some ⟨bd, 0, none⟩), .pointer (some ⟨bs', 0, none⟩), .pointer (some ⟨bw, 0, none⟩), .pointer (some ⟨bk, 0, none⟩)]) w fun e w' =>
      e = .returned (.bool (lvs conv keep sf kept c.1).1) ∧ LvI w' d bd bs' bw bk gk keepA kn kc keep soft0 tear n (lvs conv keep sf kept c.1).2.1 (lvs conv keep sf kept c.1).2.2 ∧ Fr (fun k => k = bs' ∨ k = gk) w w' := by
  have hm : lvs conv keep sf kept c.1 = (bits BinOp.and IntKind.u64 sf 1 == 1, rot sf, kept) := if_pos h1
  rw [hm]
  clear hm
  have hI0 := hI
  obtain ⟨hb, hs, hw, hk, hrow, hkr, hkl, hk64, hk0, hap⟩ := hI0
  have hsame : ∀ x, x < w.heap.size → (w.alloc (.cells (wc c).toArray 84)).heap[x]? = w.heap[x]? := fun x hx => Below.heap_alloc _ _ _ hx
  have q0 := box_cells w (wc c) 84 0 _ rfl
  have hsz1 : (w.alloc (.cells (wc c).toArray 84)).heap.size = w.heap.size + 1 := by simp
  have HF := Lib.hid ((Fr.refl (T := fun k => k = bs' ∨ k = gk) w).alloc (.cells (wc c).toArray 84))
  have hlen : (wc c).length = 66 := wc_length hc
  go_enter Try.func59, Try.ntmps59
  go_wp2_with fail
  generalize World.alloc _ _ = w1 at hsame q0 hsz1 HF ⊢
  have hD1 : DBlk w1 d conv soft seq size opn zv lb cv nb down armed ill := hD.same (hsame _ hD.lt)
  have hI1 : LvI w1 d bd bs' bw bk gk keepA kn kc keep soft0 tear n sf kept := ⟨hb.same (hsame _ hb.lt), hs.same (hsame _ hs.lt), hw.same (hsame _ hw.lt), hk.same (hsame _ hk.lt), own_same hrow fun g hg => hsame g (hrow.lt g hg).2,
    hkr.kept (by omega) fun p hp => World.cell?_of_block (hsame _ hp), hkl, hk64, hk0, hap⟩
  clear hb hs hw hk hrow hkr hkl hk64 hk0 hap hI hD hlen hc
  have HD1 := Lib.hid hD1
  have HI1 := Lib.hid hI1
  have HS := Lib.hid hsz1
  obtain ⟨hb, hs, hw, hk, hrow, hkr, hkl, hk64, hk0, hap⟩ := hI1
  have c0 := hD1.geo.1
  have cb : w1.cell? ⟨bd, 0, none⟩ = some (dp d) := hb.cell 0
  have cs' : w1.cell? ⟨bs', 0, none⟩ = some (.int .u64 sf) := hs.cell 0
  have fs := hs.frozen 0
  have cw : w1.cell? ⟨bw, 0, none⟩ = some (.slice keepA kn kc) := hw.cell 0
  have ck : w1.cell? ⟨bk, 0, none⟩ = some (.slice (some ⟨gk, 0, none⟩) n n) := hk.cell 0
  generalize w.heap.size = b0 at *
  clear hsame hsz1 hD1 hb hs hw hk hrow hkr hkl hk64 hk0 hap cw ck
  go_quiet (fail)
  go_wp2_with fail
  refine (rot_any sf _).mono ?_
  rintro e w2 ⟨rfl, rfl⟩
  go_wp2
  go_ret
  refine ⟨rfl, ?_, ?_⟩
  · exact LvI.setSoft (w := w1.drewN nq) HI1.out (rot sf)
  · exact (HF.out.drewN nq).setCell _ _ (.inl rfl)

/-- a zone's number, and how many sequential ones stand ahead of it -/
theorem sub_at {z conv : Int} (h : conv ≤ z) (h0 : 0 ≤ conv) (h2 : z ≤ 100000) : ∃ i : Nat, z - conv = (i : Int) ∧ IntKind.i64.wrap (z - conv) = (i : Int) ∧ (z - conv).toNat = i := by
  refine ⟨(z - conv).toNat, by omega, ?_, rfl⟩
  rw [IntWalk.i64_in _ (by omega)]
  omega
set_option maxRecDepth 100000 in
set_option maxHeartbeats 1000000 in
theorem leaves_short (c : Wr) (hc : c.2.2.length = 64) (h1 : conv ≤ c.1) (h0 : 0 ≤ conv) (h2 : c.1 ≤ 100000) (hs : keep.length ≤ (c.1 - conv).toNat) (hD : DBlk w d conv soft seq size opn zv lb cv nb down armed ill) (hI : LvI w d bd bs' bw bk gk keepA kn kc keep soft0 tear n sf kept) :
    Calls Try.prog 59 (#[.agg (wc c).toArray] ++ #[.pointer (some ⟨bd, 0, none⟩), .pointer (some ⟨bs', 0, none⟩), .pointer (some ⟨bw, 0, none⟩), .pointer (some ⟨bk, 0, none⟩)]) w fun e w' =>
      e = .returned (.bool (lvs conv keep sf kept c.1).1) ∧ LvI w' d bd bs' bw bk gk keepA kn kc keep soft0 tear n (lvs conv keep sf kept c.1).2.1 (lvs conv keep sf kept c.1).2.2 ∧ Fr (fun k => k = bs' ∨ k = gk) w w' := by
  obtain ⟨i, hi, hwi, hti⟩ := sub_at h1 h0 h2
  have hn : ¬ c.1 < conv := by omega
  have hm : lvs conv keep sf kept c.1 = (false, sf, kept) := by rw [lvs, if_neg hn, if_pos (.inl hs)]
  rw [hm]
  have HKN := Lib.hid (show kn ≤ i by have := hI.2.2.2.2.2.2.1; omega)
  clear hm hs
  have hI0 := hI
  obtain ⟨hb, hs, hw, hk, hrow, hkr, hkl, hk64, hk0, hap⟩ := hI0
  have hsame : ∀ x, x < w.heap.size → (w.alloc (.cells (wc c).toArray 84)).heap[x]? = w.heap[x]? := fun x hx => Below.heap_alloc _ _ _ hx
  have q0 := box_cells w (wc c) 84 0 _ rfl
  have hsz1 : (w.alloc (.cells (wc c).toArray 84)).heap.size = w.heap.size + 1 := by simp
  have HF := Lib.hid ((Fr.refl (T := fun k => k = bs' ∨ k = gk) w).alloc (.cells (wc c).toArray 84))
  have hlen : (wc c).length = 66 := wc_length hc
  go_enter Try.func59, Try.ntmps59
  go_wp2_with fail
  generalize World.alloc _ _ = w1 at hsame q0 hsz1 HF ⊢
  have hD1 : DBlk w1 d conv soft seq size opn zv lb cv nb down armed ill := hD.same (hsame _ hD.lt)
  have hI1 : LvI w1 d bd bs' bw bk gk keepA kn kc keep soft0 tear n sf kept := ⟨hb.same (hsame _ hb.lt), hs.same (hsame _ hs.lt), hw.same (hsame _ hw.lt), hk.same (hsame _ hk.lt), own_same hrow fun g hg => hsame g (hrow.lt g hg).2,
    hkr.kept (by omega) fun p hp => World.cell?_of_block (hsame _ hp), hkl, hk64, hk0, hap⟩
  clear hb hs hw hk hrow hkr hkl hk64 hk0 hap hI hD hlen hc
  have HD1 := Lib.hid hD1
  have HI1 := Lib.hid hI1
  have HS := Lib.hid hsz1
  obtain ⟨hb, hs, hw, hk, hrow, hkr, hkl, hk64, hk0, hap⟩ := hI1
  have c0 := hD1.geo.1
  have cb : w1.cell? ⟨bd, 0, none⟩ = some (dp d) := hb.cell 0
  have cs' : w1.cell? ⟨bs', 0, none⟩ = some (.int .u64 sf) := hs.cell 0
  have fs := hs.frozen 0
  have cw : w1.cell? ⟨bw, 0, none⟩ = some (.slice keepA kn kc) := hw.cell 0
  have ck : w1.cell? ⟨bk, 0, none⟩ = some (.slice (some ⟨gk, 0, none⟩) n n) := hk.cell 0
  have hq : decide (kn ≤ i) = true := decide_eq_true HKN.out
  have hi0 : (0 : Int) ≤ (i : Int) := Int.natCast_nonneg _
  have hi2 : i ≤ 100000 := by omega
  have hlt0 : decide ((i : Int) < 0) = false := decide_eq_false (by omega)
  have hlt1 : decide (c.1 - conv < 0) = false := decide_eq_false (by omega)
  have HX := Lib.hid (And.intro h1 (And.intro h2 (And.intro h0 (And.intro hn hti))))
  generalize c.1 = z at *
  clear hsame hsz1 hD1 hb hs hw hk hrow hkr hkl hk64 hk0 hap h1 h2 h0 hn hti
  generalize w.heap.size = b0 at *
  go_quiet (fail)
  go_wp2_with fail
  go_quiet (fail)
  go_wp2
  go_ret
  refine ⟨rfl, HI1.out, (HF.out.drewN _).drewN _⟩
set_option maxRecDepth 100000 in
set_option maxHeartbeats 1000000 in
theorem leaves_full (c : Wr) (hc : c.2.2.length = 64) (h1 : conv ≤ c.1) (h0 : 0 ≤ conv) (h2 : c.1 ≤ 100000) (hs : (c.1 - conv).toNat < keep.length) (hs2 : (c.1 - conv).toNat < n) (hs3 : keep.getD (c.1 - conv).toNat 0 ≤ kept.getD (c.1 - conv).toNat 0) (hcap : kn ≤ kc) (hkc : kc ≤ maxLen) (hnl : n ≤ 1000) (hD : DBlk w d conv soft seq size opn zv lb cv nb down armed ill) (hI : LvI w d bd bs' bw bk gk keepA kn kc keep soft0 tear n sf kept) :
    Calls Try.prog 59 (#[.agg (wc c).toArray] ++ #[.pointer (some ⟨bd, 0, none⟩), .pointer (some ⟨bs', 0, none⟩), .pointer (some ⟨bw, 0, none⟩), .pointer (some ⟨bk, 0, none⟩)]) w fun e w' =>
      e = .returned (.bool (lvs conv keep sf kept c.1).1) ∧ LvI w' d bd bs' bw bk gk keepA kn kc keep soft0 tear n (lvs conv keep sf kept c.1).2.1 (lvs conv keep sf kept c.1).2.2 ∧ Fr (fun k => k = bs' ∨ k = gk) w w' := by
  obtain ⟨i, hi, hwi, hti⟩ := sub_at h1 h0 h2
  have hn : ¬ c.1 < conv := by omega
  have hm : lvs conv keep sf kept c.1 = (false, sf, kept) := by rw [lvs, if_neg hn, if_pos (.inr hs3)]
  rw [hm]
  have HKN := Lib.hid (show i < kn by have := hI.2.2.2.2.2.2.1; omega)
  have HIN := Lib.hid (show i < n by omega)
  rw [hti] at hs3
  have HLE := Lib.hid hs3
  have hkm : kn ≤ maxLen := by omega
  unfold maxLen at hkm
  clear hm hs hs2 hs3 hcap hkc
  have hI0 := hI
  obtain ⟨hb, hs, hw, hk, hrow, hkr, hkl, hk64, hk0, hap⟩ := hI0
  have hsame : ∀ x, x < w.heap.size → (w.alloc (.cells (wc c).toArray 84)).heap[x]? = w.heap[x]? := fun x hx => Below.heap_alloc _ _ _ hx
  have q0 := box_cells w (wc c) 84 0 _ rfl
  have hsz1 : (w.alloc (.cells (wc c).toArray 84)).heap.size = w.heap.size + 1 := by simp
  have HF := Lib.hid ((Fr.refl (T := fun k => k = bs' ∨ k = gk) w).alloc (.cells (wc c).toArray 84))
  have hlen : (wc c).length = 66 := wc_length hc
  go_enter Try.func59, Try.ntmps59
  go_wp2_with fail
  generalize World.alloc _ _ = w1 at hsame q0 hsz1 HF ⊢
  have hD1 : DBlk w1 d conv soft seq size opn zv lb cv nb down armed ill := hD.same (hsame _ hD.lt)
  have hI1 : LvI w1 d bd bs' bw bk gk keepA kn kc keep soft0 tear n sf kept := ⟨hb.same (hsame _ hb.lt), hs.same (hsame _ hs.lt), hw.same (hsame _ hw.lt), hk.same (hsame _ hk.lt), own_same hrow fun g hg => hsame g (hrow.lt g hg).2,
    hkr.kept (by omega) fun p hp => World.cell?_of_block (hsame _ hp), hkl, hk64, hk0, hap⟩
  clear hb hs hw hk hrow hkr hkl hk64 hk0 hap hI hD hlen hc
  have HD1 := Lib.hid hD1
  have HI1 := Lib.hid hI1
  have HS := Lib.hid hsz1
  obtain ⟨hb, hs, hw, hk, hrow, hkr, hkl, hk64, hk0, hap⟩ := hI1
  have c0 := hD1.geo.1
  have cb : w1.cell? ⟨bd, 0, none⟩ = some (dp d) := hb.cell 0
  have cs' : w1.cell? ⟨bs', 0, none⟩ = some (.int .u64 sf) := hs.cell 0
  have fs := hs.frozen 0
  have cw : w1.cell? ⟨bw, 0, none⟩ = some (.slice keepA kn kc) := hw.cell 0
  have ck : w1.cell? ⟨bk, 0, none⟩ = some (.slice (some ⟨gk, 0, none⟩) n n) := hk.cell 0
  have hin := HIN.out
  have hik := HKN.out
  have hq : decide (kn ≤ i) = false := decide_eq_false (by omega)
  have hkpl : kept.length = n := by have := hrow.1; simpa using this
  have cg : w1.cell? ⟨gk, i, none⟩ = some (.int .i64 (kept.getD i 0)) := by
    have := (Rd.own hrow).cell0 (k := i) (u := .int .i64 (kept.getD i 0)) (by simp [ints, List.getD_eq_getElem?_getD, List.getElem?_eq_getElem (show i < kept.length by omega)])
    exact this
  obtain ⟨ad, hA, _, cq⟩ := hkr.at (k := i) (u := .int .i64 (keep.getD i 0)) (by simp [ints, List.getD_eq_getElem?_getD, List.getElem?_eq_getElem (show i < keep.length by omega)])
  subst hA
  have hq2 : decide (keep.getD i 0 ≤ kept.getD i 0) = true := decide_eq_true HLE.out
  generalize keep.getD i 0 = x at *
  generalize kept.getD i 0 = y at *
  have hi0 : (0 : Int) ≤ (i : Int) := Int.natCast_nonneg _
  have hi2 : i ≤ 100000 := by omega
  have hlt0 : decide ((i : Int) < 0) = false := decide_eq_false (by omega)
  have hlt1 : decide (c.1 - conv < 0) = false := decide_eq_false (by omega)
  have HX := Lib.hid (And.intro h1 (And.intro h2 (And.intro h0 (And.intro hn hti))))
  generalize c.1 = z at *
  clear hsame hsz1 hD1 hb hs hw hk hrow hkr hkl hk64 hk0 hap h1 h2 h0 hn hti hkpl
  generalize w.heap.size = b0 at *
  go_quiet (fail)
  go_wp2_with fail
  go_quiet (fail)
  go_wp2
  go_ret
  refine ⟨rfl, HI1.out, (HF.out.drewN _).drewN _⟩

set_option maxRecDepth 100000 in
set_option maxHeartbeats 1000000 in
theorem leaves_yes (c : Wr) (hc : c.2.2.length = 64) (h1 : conv ≤ c.1) (h0 : 0 ≤ conv) (h2 : c.1 ≤ 100000) (hs : (c.1 - conv).toNat < keep.length) (hs2 : (c.1 - conv).toNat < n) (hs3 : kept.getD (c.1 - conv).toNat 0 < keep.getD (c.1 - conv).toNat 0) (hcap : kn ≤ kc) (hkc : kc ≤ maxLen) (hnl : n ≤ 1000) (hD : DBlk w d conv soft seq size opn zv lb cv nb down armed ill) (hI : LvI w d bd bs' bw bk gk keepA kn kc keep soft0 tear n sf kept) :
    Calls Try.prog 59 (#[.agg (wc c).toArray] ++ #[.pointer (some ⟨bd, 0, none⟩), .pointer (some ⟨bs', 0, none⟩), .pointer (some ⟨bw, 0, none⟩), .pointer (some ⟨bk, 0, none⟩)]) w fun e w' =>
      e = .returned (.bool (lvs conv keep sf kept c.1).1) ∧ LvI w' d bd bs' bw bk gk keepA kn kc keep soft0 tear n (lvs conv keep sf kept c.1).2.1 (lvs conv keep sf kept c.1).2.2 ∧ Fr (fun k => k = bs' ∨ k = gk) w w' := by
  obtain ⟨i, hi, hwi, hti⟩ := sub_at h1 h0 h2
  have hn : ¬ c.1 < conv := by omega
  have hm : lvs conv keep sf kept c.1 = (true, sf, kept.set i (kept.getD i 0 + 1)) := by rw [lvs, if_neg hn, if_neg (by omega), hti]
  rw [hm]
  have HKN := Lib.hid (show i < kn by have := hI.2.2.2.2.2.2.1; omega)
  have HIN := Lib.hid (show i < n by omega)
  rw [hti] at hs3
  have HLE := Lib.hid hs3
  have hkm : kn ≤ maxLen := by omega
  unfold maxLen at hkm
  clear hm hs hs2 hs3 hcap hkc
  have hI0 := hI
  obtain ⟨hb, hs, hw, hk, hrow, hkr, hkl, hk64, hk0, hap⟩ := hI0
  have hsame : ∀ x, x < w.heap.size → (w.alloc (.cells (wc c).toArray 84)).heap[x]? = w.heap[x]? := fun x hx => Below.heap_alloc _ _ _ hx
  have q0 := box_cells w (wc c) 84 0 _ rfl
  have hsz1 : (w.alloc (.cells (wc c).toArray 84)).heap.size = w.heap.size + 1 := by simp
  have HF := Lib.hid ((Fr.refl (T := fun k => k = bs' ∨ k = gk) w).alloc (.cells (wc c).toArray 84))
  have hlen : (wc c).length = 66 := wc_length hc
  go_enter Try.func59, Try.ntmps59
  go_wp2_with fail
  generalize World.alloc _ _ = w1 at hsame q0 hsz1 HF ⊢
  have hD1 : DBlk w1 d conv soft seq size opn zv lb cv nb down armed ill := hD.same (hsame _ hD.lt)
  have hI1 : LvI w1 d bd bs' bw bk gk keepA kn kc keep soft0 tear n sf kept := ⟨hb.same (hsame _ hb.lt), hs.same (hsame _ hs.lt), hw.same (hsame _ hw.lt), hk.same (hsame _ hk.lt), own_same hrow fun g hg => hsame g (hrow.lt g hg).2,
    hkr.kept (by omega) fun p hp => World.cell?_of_block (hsame _ hp), hkl, hk64, hk0, hap⟩
  clear hb hs hw hk hrow hkr hkl hk64 hk0 hap hI hD hlen hc
  have HD1 := Lib.hid hD1
  have HI1 := Lib.hid hI1
  have HS := Lib.hid hsz1
  obtain ⟨hb, hs, hw, hk, hrow, hkr, hkl, hk64, hk0, hap⟩ := hI1
  have c0 := hD1.geo.1
  have cb : w1.cell? ⟨bd, 0, none⟩ = some (dp d) := hb.cell 0
  have cs' : w1.cell? ⟨bs', 0, none⟩ = some (.int .u64 sf) := hs.cell 0
  have fs := hs.frozen 0
  have cw : w1.cell? ⟨bw, 0, none⟩ = some (.slice keepA kn kc) := hw.cell 0
  have ck : w1.cell? ⟨bk, 0, none⟩ = some (.slice (some ⟨gk, 0, none⟩) n n) := hk.cell 0
  have hin := HIN.out
  have hik := HKN.out
  have hq : decide (kn ≤ i) = false := decide_eq_false (by omega)
  have hkpl : kept.length = n := by have := hrow.1; simpa using this
  have cg : w1.cell? ⟨gk, i, none⟩ = some (.int .i64 (kept.getD i 0)) := by
    have := (Rd.own hrow).cell0 (k := i) (u := .int .i64 (kept.getD i 0)) (by simp [ints, List.getD_eq_getElem?_getD, List.getElem?_eq_getElem (show i < kept.length by omega)])
    exact this
  obtain ⟨ad, hA, _, cq⟩ := hkr.at (k := i) (u := .int .i64 (keep.getD i 0)) (by simp [ints, List.getD_eq_getElem?_getD, List.getElem?_eq_getElem (show i < keep.length by omega)])
  subst hA
  have hq2 : decide (keep.getD i 0 ≤ kept.getD i 0) = false := decide_eq_false (by have := HLE.out; omega)
  have hy0 : 0 ≤ kept.getD i 0 := by
    rw [List.getD_eq_getElem?_getD, List.getElem?_eq_getElem (show i < kept.length by omega)]
    exact hk0 _ (List.getElem_mem _)
  have hx1 : kept.getD i 0 + 1 ≤ 9223372036854775807 := by
    have h3 : W64 (keep.getD i 0) := by
      rw [List.getD_eq_getElem?_getD, List.getElem?_eq_getElem (show i < keep.length by omega)]
      exact hk64 _ (List.getElem_mem _)
    have := (wf_i64 h3).2
    have := HLE.out
    omega
  have fg := hrow.frozenAt i
  generalize keep.getD i 0 = x at *
  generalize hyy : kept.getD i 0 = y at *
  have HY := Lib.hid hyy
  clear hyy
  have hi0 : (0 : Int) ≤ (i : Int) := Int.natCast_nonneg _
  have hi2 : i ≤ 100000 := by omega
  have hlt0 : decide ((i : Int) < 0) = false := decide_eq_false (by omega)
  have hlt1 : decide (c.1 - conv < 0) = false := decide_eq_false (by omega)
  have HX := Lib.hid (And.intro h1 (And.intro h2 (And.intro h0 (And.intro hn hti))))
  generalize c.1 = z at *
  clear hsame hsz1 hD1 hb hs hw hk hrow hkr hkl hk64 hk0 hap h1 h2 h0 hn hti hkpl
  generalize w.heap.size = b0 at *
  go_quiet (fail)
  go_wp2_with fail
  go_quiet (fail)
  go_wp2
  go_ret
  rw [HY.out]
  exact ⟨rfl, LvI.setKept (w := w1.drewN _) HI1.out i (y + 1) (by omega), (HF.out.drewN _).setCell ⟨gk, i, none⟩ _ (.inr rfl)⟩
theorem leavesF_any (c : Wr) (hc : c.2.2.length = 64) (h0 : 0 ≤ c.1) (h1 : c.1 ≤ 100000) (hcv0 : 0 ≤ conv) (hcv1 : conv ≤ 1000) (hn : (c.1 - conv).toNat < n) (hcap : kn ≤ kc) (hkc : kc ≤ maxLen) (hnl : n ≤ 1000) (hD : DBlk w d conv soft seq size opn zv lb cv nb down armed ill) (hI : LvI w d bd bs' bw bk gk keepA kn kc keep soft0 tear n sf kept) :
    Calls Try.prog 59 (#[.agg (wc c).toArray] ++ #[.pointer (some ⟨bd, 0, none⟩), .pointer (some ⟨bs', 0, none⟩), .pointer (some ⟨bw, 0, none⟩), .pointer (some ⟨bk, 0, none⟩)]) w fun e w' =>
      e = .returned (.bool (lvs conv keep sf kept c.1).1) ∧ LvI w' d bd bs' bw bk gk keepA kn kc keep soft0 tear n (lvs conv keep sf kept c.1).2.1 (lvs conv keep sf kept c.1).2.2 ∧ Fr (fun k => k = bs' ∨ k = gk) w w' := by
  by_cases hz : c.1 < conv
  · exact leaves_soft c hc h0 hz hcv1 hD hI
  by_cases hk : keep.length ≤ (c.1 - conv).toNat
  · exact leaves_short c hc (by omega) hcv0 h1 hk hD hI
  by_cases hf : keep.getD (c.1 - conv).toNat 0 ≤ kept.getD (c.1 - conv).toNat 0
  · exact leaves_full c hc (by omega) hcv0 h1 (by omega) hn hf hcap hkc hnl hD hI
  · exact leaves_yes c hc (by omega) hcv0 h1 (by omega) hn (by omega) hcap hkc hnl hD hI
end
end Go.Proofs.Ythgjlofebicpiaa

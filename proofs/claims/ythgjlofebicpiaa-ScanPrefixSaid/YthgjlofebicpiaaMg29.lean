/-
  DevL
-/
import Derived.Test.YthgjlofebicpiaaMg28
import Derived.Deep.RegionWith
/-
  Package dev: Crash.
-/
namespace Go.Proofs.Ythgjlofebicpiaa
open Go.RowKit Geom Zone Dev
set_option linter.unusedVariables false

namespace Dev
/-- a page's bytes, of what stands at a place -/
def unpg : Option Value → List Int
  | some (.agg cs) => cs.toList.map fun v => match v with | .int _ x => x | _ => 0
  | _ => z64
theorem unpg_some (p : List Int) : unpg (some (pgv p)) = p := by
  unfold unpg pgv bs
  simp only [List.map_map]
  exact (List.map_congr_left (fun a _ => rfl)).trans (List.map_id p)
theorem unpg_get {f : Option Value} (h : ∀ v, f = some v → ∃ p : List Int, p.length = 64 ∧ v = pgv p) : f.getD (pgv z64) = pgv (unpg f) ∧ (unpg f).length = 64 := by
  cases f with
  | none => exact ⟨rfl, rfl⟩
  | some v =>
    obtain ⟨p, hp, rfl⟩ := h v rfl
    rw [unpg_some]
    exact ⟨rfl, hp⟩
theorem stl_pages {St : Type} (step : St → Wr → Int × St) : ∀ (l : List Wr) (s : St × List Wr × (Pl → Option Value)), WOk l → (∀ a v, s.2.2 a = some v → ∃ p : List Int, p.length = 64 ∧ v = pgv p) → ∀ a v, (stl step l s).2.2 a = some v → ∃ p : List Int, p.length = 64 ∧ v = pgv p
  | [], (σ, k, f), _, h => h
  | c :: r, (σ, k, f), hw, h => stl_pages step r _ (fun x hx => hw x (by simp [hx])) fun a v hv => by
    simp only at hv
    split at hv
    · unfold updM at hv
      split at hv
      · injection hv with hv
        exact ⟨c.2.2, hw c (by simp), hv.symm⟩
      · exact h a v hv
    · exact h a v hv
theorem crs_last (conv : Int) (keep : List Int) (X : List Wr) : ∀ (l : List Wr) (s : Cst × List Wr × (Pl → Option Value)), (∀ c ∈ l, c ∈ X) → (s.1.left = false → s.1.last ∈ X) → (stl (crs conv keep) l s).1.left = false → (stl (crs conv keep) l s).1.last ∈ X
  | [], (σ, k, f), _, h => h
  | c :: r, (σ, k, f), hw, h => crs_last conv keep X r _ (fun x hx => hw x (by simp [hx])) fun hl => by
    simp only at hl ⊢
    unfold crs
    split
    · exact hw c (by simp)
    · exact hw c (by simp)
/-- a crash, plainly -/
def crashD (D : Dv) (keep : List Int) (soft0 tear : Int) : Dv :=
  let r := crashS D keep soft0
  let t := if r.1.left = false ∧ 0 < tear then tearL D.conv D.soft D.seq D.size D.opn (r.1.L.map pow) r.2.2 r.1.last (min tear 64).toNat (unpg (r.2.2 r.1.last.pl)) else (r.1.L.map pow, r.2.2)
  { D with L := t.1, last := t.2, use := D.use + D.cache.length + 1, cache := r.2.1, down := false, armed := 0 }
theorem crashD_eq (D : Dv) (keep : List Int) (soft0 tear : Int) (s : Cst) (ck : List Wr) (lk : Pl → Option Value) (h : crashS D keep soft0 = (s, ck, lk)) : crashD D keep soft0 tear =
    { D with L := (if s.left = false ∧ 0 < tear then tearL D.conv D.soft D.seq D.size D.opn (s.L.map pow) lk s.last (min tear 64).toNat (unpg (lk s.last.pl)) else (s.L.map pow, lk)).1,
             last := (if s.left = false ∧ 0 < tear then tearL D.conv D.soft D.seq D.size D.opn (s.L.map pow) lk s.last (min tear 64).toNat (unpg (lk s.last.pl)) else (s.L.map pow, lk)).2,
             use := D.use + D.cache.length + 1, cache := ck, down := false, armed := 0 } := by
  unfold crashD
  rw [h]
end Dev

theorem w64 {a : Int} (h0 : -9223372036854775808 ≤ a) (h1 : a ≤ 9223372036854775807) : W64 a := by
  simp [W64, Lit.wf, IntKind.min, IntKind.max, IntKind.signed, IntKind.bits]
  omega
theorem DvOk.place64 {D : Dv} (h : DvOk D) {c : Wr} (hc : c ∈ D.cache) : (W64 c.1 ∧ W64 c.2.1) ∧ c.2.1 ≤ 65536 := by
  obtain ⟨p0, p1, p2, p3⟩ := h.place c hc
  have hn := h.nl
  obtain ⟨o1, o2, o3, o4, o5, o6, o7, o8⟩ := h.ok
  have : c.2.1 ≤ 65536 := by
    unfold sectors at p3
    split at p3
    · omega
    · split at p3 <;> omega
  exact ⟨⟨w64 (by omega) (by omega), w64 (by omega) (by omega)⟩, this⟩

section
variable {w : World} {d : Nat}
set_option maxRecDepth 100000 in
set_option maxHeartbeats 4000000 in
theorem crash_any (T : Nat → Prop) (D : Dv) (keepA : Option Addr) (kn kc : Nat) (keep : List Int) (soft0 tear : Int) (hT : ∀ k, w.heap.size ≤ k → T k) (hO : DvOk D) (hI : DevIs T w d D)
    (hkr : Rd w w.heap.size keepA (ints keep)) (hkl : keep.length = kn) (hcap : kn ≤ kc) (hkc : kc ≤ maxLen) (hk64 : ∀ x ∈ keep, W64 x) (hkT : ∀ ad, keepA = some ad → ints keep ≠ [] → ¬ T ad.block) :
    Calls Try.prog 19 #[dp d, .agg #[.slice keepA kn kc, .int .u64 soft0, .int .i64 tear]] w fun e w' => e = .returned (.tuple #[]) ∧ DevIs T w' d (crashD D keep soft0 tear) ∧ Fr T w w' := by
  obtain ⟨gz, cz, lb, cv, nb, hD, hown, hcv, hm, hmn, t1, t2, t3, t4, t5, t6⟩ := hI
  have hn0 : 0 < D.n := by have := hO.ok.1; have := hO.ok.2.1; have := hO.ns; omega
  obtain ⟨w2, hw2⟩ : ∃ w2, w2 = ((w.alloc (.cells #[dp d] 27)).alloc (.cells #[.slice keepA kn kc, .int .u64 soft0, .int .i64 tear] 46)).alloc (.cells Try.zeroCells84 84) := ⟨_, rfl⟩
  have hB2 : Below w.heap.size w w2 := by rw [hw2]; exact (((Below.refl _ _).alloc (Nat.le_refl _) _).alloc (by simp) _).alloc (by simp; omega) _
  have hz2 : w2.heap.size = w.heap.size + 3 := by rw [hw2]; simp
  have x0 : Box w2 w.heap.size 27 [dp d] := by
    rw [hw2]; exact (Box.new w _ [dp d]).same ((Below.heap_alloc _ _ _ (by simp; omega)).trans (Below.heap_alloc _ _ _ (by simp)))
  have x1 : Box w2 (w.heap.size + 1) 46 [.slice keepA kn kc, .int .u64 soft0, .int .i64 tear] := by
    have := Box.new (w.alloc (.cells #[dp d] 27)) 46 [.slice keepA kn kc, .int .u64 soft0, .int .i64 tear]
    rw [show (w.alloc (.cells #[dp d] 27)).heap.size = w.heap.size + 1 by simp] at this
    rw [hw2]
    exact this.same (Below.heap_alloc _ _ _ (by simp))
  have x2 : Box w2 (w.heap.size + 2) 84 (wc (0, 0, z64)) := by
    have := (MapKept.heap_alloc ((w.alloc (.cells #[dp d] 27)).alloc (.cells #[.slice keepA kn kc, .int .u64 soft0, .int .i64 tear] 46)) (.cells Try.zeroCells84 84)).1
    rw [show ((w.alloc (.cells #[dp d] 27)).alloc (.cells #[.slice keepA kn kc, .int .u64 soft0, .int .i64 tear] 46)).heap.size = w.heap.size + 2 by simp] at this
    rw [hw2]
    unfold Box
    rw [wc_zero]
    exact this
  have hs2 : ∀ x, x < w.heap.size → w2.heap[x]? = w.heap[x]? := fun x hx => hB2.block x hx
  have hD2 : DBlk w2 d D.conv D.soft D.seq D.size D.opn (.slice (some ⟨gz, 0, none⟩) D.n cz) lb cv nb D.down D.armed D.ill := hD.same (hs2 _ hD.lt)
  have c0 : w2.cell? ⟨w.heap.size, 0, none⟩ = some (dp d) := x0.cell 0
  have cw0 : w2.cell? ⟨w.heap.size + 1, 0, none⟩ = some (.slice keepA kn kc) := x1.cell 0
  have cw1 : w2.cell? ⟨w.heap.size + 1, 1, none⟩ = some (.int .u64 soft0) := x1.cell 1
  have cw2 : w2.cell? ⟨w.heap.size + 1, 2, none⟩ = some (.int .i64 tear) := x1.cell 2
  have hLV := leaves_any (some ⟨gz, 0, none⟩) D.n cz hO.nl hn0 keepA kn kc keep soft0 tear hD2 ((hkr.below hB2).more hB2.size) hkl hk64
  have HLV := Lib.hid hLV
  have HW2 := Lib.hid hw2
  clear hLV
  go_enter Try.func19, Try.ntmps19
  go_wp2_with fail
  rw [← hw2]
  clear hw2
  refine HLV.out.mono ?_
  rintro e w3 ⟨bd, bs, bw, bk, gk, rfl, hL3, hB3, l1, l2, l3, l4, l5⟩
  obtain ⟨kcl, kfz⟩ := bcell hB3
  have hz3 := hB3.size
  have c0' : w3.cell? ⟨w.heap.size, 0, none⟩ = some (dp d) := (hB3.cell (p := ⟨w.heap.size, 0, none⟩) x0.lt).trans c0
  obtain ⟨FV, hFV⟩ : ∃ FV, FV = Value.func (.func 59) #[] #[.pointer (some ⟨bd, 0, none⟩), .pointer (some ⟨bs, 0, none⟩), .pointer (some ⟨bw, 0, none⟩), .pointer (some ⟨bk, 0, none⟩)] := ⟨_, rfl⟩
  have hst : (store ⟨w3.heap.size + 1, 0, none⟩ (Value.func (.func 59) #[] #[.pointer (some ⟨bd, 0, none⟩), .pointer (some ⟨bs, 0, none⟩), .pointer (some ⟨bw, 0, none⟩), .pointer (some ⟨bk, 0, none⟩)])).run Try.prog ((w3.alloc (.cells #[.bool true] 4)).alloc (.cells #[.nilFunc] 85)) =
      .ok () ((w3.alloc (.cells #[.bool true] 4)).alloc (.cells #[FV] 85)) := by
    have hN := Box.new (w3.alloc (.cells #[.bool true] 4)) 85 [.nilFunc]
    rw [show (w3.alloc (.cells #[.bool true] 4)).heap.size = w3.heap.size + 1 by simp] at hN
    rw [run_store _ _ _ _ _ rfl]
    have e1 : ((w3.alloc (.cells #[.bool true] 4)).alloc (.cells #[.nilFunc] 85)).cell? ⟨w3.heap.size + 1, 0, none⟩ = some .nilFunc := hN.cell 0
    have e2 : ((w3.alloc (.cells #[.bool true] 4)).alloc (.cells #[.nilFunc] 85)).frozen? ⟨w3.heap.size + 1, 0, none⟩ = false := hN.frozen 0
    rw [e1]
    simp only [e2, Bool.false_eq_true, if_false]
    rw [hFV]
    congr 1
    have e3 := setCell_eq_setRow ((w3.alloc (.cells #[.bool true] 4)).alloc (.cells #[.nilFunc] 85)) (w3.heap.size + 1) 0 #[.nilFunc] 85 (0, 0) (Value.func (.func 59) #[] #[.pointer (some ⟨bd, 0, none⟩), .pointer (some ⟨bs, 0, none⟩), .pointer (some ⟨bw, 0, none⟩), .pointer (some ⟨bk, 0, none⟩)]) hN
    rw [e3]
    have e4 := World.setRow_alloc_new (w3.alloc (.cells #[.bool true] 4)) #[.nilFunc] #[Value.func (.func 59) #[] #[.pointer (some ⟨bd, 0, none⟩), .pointer (some ⟨bs, 0, none⟩), .pointer (some ⟨bw, 0, none⟩), .pointer (some ⟨bk, 0, none⟩)]] 85
    rw [show (w3.alloc (.cells #[.bool true] 4)).heap.size = w3.heap.size + 1 by simp] at e4
    exact e4
  obtain ⟨w4, hw4⟩ : ∃ w4, w4 = (w3.alloc (.cells #[.bool true] 4)).alloc (.cells #[FV] 85) := ⟨_, rfl⟩
  rw [← hw4] at hst
  have hB4 : Below w3.heap.size w3 w4 := by rw [hw4]; exact ((Below.refl _ _).alloc (Nat.le_refl _) _).alloc (by simp) _
  have hz4 : w4.heap.size = w3.heap.size + 2 := by rw [hw4]; simp
  have y0 : Box w4 w3.heap.size 4 [.bool true] := by rw [hw4]; exact (Box.new w3 _ [.bool true]).same (Below.heap_alloc _ _ _ (by simp))
  have y1 : Box w4 (w3.heap.size + 1) 85 [FV] := by
    have := Box.new (w3.alloc (.cells #[.bool true] 4)) 85 [FV]
    rw [show (w3.alloc (.cells #[.bool true] 4)).heap.size = w3.heap.size + 1 by simp] at this
    rw [hw4]; exact this
  have hs4 : ∀ x, x < w2.heap.size → w4.heap[x]? = w2.heap[x]? := fun x hx => (hB4.block x (by omega)).trans (hB3.block x hx)
  have hs40 : ∀ x, x < w.heap.size → w4.heap[x]? = w.heap[x]? := fun x hx => (hs4 x (by omega)).trans (hs2 x hx)
  have hL4 : LvI w4 d bd bs bw bk gk keepA kn kc keep soft0 tear D.n soft0 (List.replicate D.n 0) := hL3.same hB4.size fun x hx _ => hB4.block x hx
  have hCr : CrI w4 d D.n cz gz (w3.heap.size + 1) (w.heap.size + 2) w3.heap.size w.heap.size bd bs bw bk gk keepA kn kc keep soft0 tear ⟨soft0, List.replicate D.n 0, true, (0, 0, z64), D.L⟩ := by
    have hfl := hO.fit.1
    have hns := hO.ns
    refine ⟨hFV ▸ y1, x2.same (hs4 _ x2.lt), y0, x0.same (hs4 _ x0.lt), hL4, own_same hown fun g hg => hs40 g (hown.lt g hg).2, (by show D.L.length = D.n; omega), rfl, fun ad ha hne => ?_⟩
    obtain ⟨ad', h1, h2, _⟩ := hkr hne
    rw [ha] at h1
    injection h1 with h1
    subst h1
    exact ⟨by omega, by omega, fun e => hkT ad ha hne (e ▸ t2)⟩
  have hD4 : DBlk w4 d D.conv D.soft D.seq D.size D.opn (.slice (some ⟨gz, 0, none⟩) D.n cz) lb cv nb D.down D.armed D.ill := hD.same (hs40 _ hD.lt)
  have hcv4 : w4.ownsRow 0 84 66 cv D.cache.length (wcs D.cache) := own_same hcv fun g hg => hs40 g (hcv.lt g hg).2
  have hm4 : MapIs w4 lb D.use D.last := hm.same (hs40 _ hm.lt)
  have hjl : ∀ k, CrJ gz (w3.heap.size + 1) (w.heap.size + 2) w3.heap.size w.heap.size bd bs bw bk gk keepA keep k → k < w4.heap.size ∧ k ≠ d ∧ k ≠ lb ∧ cv.ownBlock ≠ some k := by
    have q1 := hD.lt
    have q2 := hm.lt
    have q3 := (hown.lt gz rfl).2
    have q4 : ∀ g, cv.ownBlock = some g → g < w.heap.size := fun g hg => (hcv.lt g hg).2
    obtain ⟨b1, b2, b3, b4, b5, _⟩ := hL4
    have p1 := b1.lt
    have p2 := b2.lt
    have p3 := b3.lt
    have p4 := b4.lt
    have p5 := (b5.lt gk rfl).2
    have hgzcv : cv.ownBlock ≠ some gz := by
      intro h
      obtain ⟨_, c1, e1⟩ := own_type hcv h
      obtain ⟨_, c2, e2⟩ := own_type hown rfl
      rw [e1] at e2
      injection e2 with e2
      injection e2 with _ e2
      exact absurd e2 (by decide)
    have key : ∀ k, w.heap.size ≤ k → k < w4.heap.size → k < w4.heap.size ∧ k ≠ d ∧ k ≠ lb ∧ cv.ownBlock ≠ some k := fun k h1 h2 => ⟨h2, by omega, by omega, fun h => by have := q4 k h; omega⟩
    intro k hk
    unfold CrJ at hk
    rcases hk with rfl | rfl | rfl | rfl | rfl | rfl | rfl | rfl | rfl | rfl | ⟨ad, ha, hne, rfl⟩
    · exact ⟨by omega, fun e => hD.ne_row hown rfl (by decide) e.symm, fun e => hm.ne_row hown rfl e.symm, hgzcv⟩
    · exact key _ (by omega) (by omega)
    · exact key _ (by omega) (by omega)
    · exact key _ (by omega) (by omega)
    · exact key _ (by omega) (by omega)
    · exact key _ (by omega) (by omega)
    · exact key _ (by omega) (by omega)
    · exact key _ (by omega) (by omega)
    · exact key _ (by omega) (by omega)
    · exact key _ (by omega) (by omega)
    · obtain ⟨ad', h1, h2, _⟩ := hkr hne
      rw [ha] at h1
      injection h1 with h1
      subst h1
      have hn := hkT ad ha hne
      exact ⟨by omega, fun e => hn (e ▸ t1), fun e => hn (e ▸ t3), fun h => hn (t5 _ h)⟩
  have hwok : ∀ c ∈ D.cache, W64 c.1 ∧ W64 c.2.1 := fun c hc => (hO.place64 hc).1
  have hST := settle_any (w := w4) (d := d) 34 #[.pointer (some ⟨w3.heap.size + 1, 0, none⟩), .pointer (some ⟨w.heap.size + 2, 0, none⟩), .pointer (some ⟨w3.heap.size, 0, none⟩), .pointer (some ⟨w.heap.size, 0, none⟩)]
    (crs D.conv keep) (fun s w' => CrI w' d D.n cz gz (w3.heap.size + 1) (w.heap.size + 2) w3.heap.size w.heap.size bd bs bw bk gk keepA kn kc keep soft0 tear s)
    (CrJ gz (w3.heap.size + 1) (w.heap.size + 2) w3.heap.size w.heap.size bd bs bw bk gk keepA keep) (fun k => k = bs ∨ k = gk ∨ k = w.heap.size + 2 ∨ k = w3.heap.size ∨ k = gz)
    ⟨soft0, List.replicate D.n 0, true, (0, 0, z64), D.L⟩ D.cache D.use 0 D.last hO.wok hwok hO.cl hO.use hD4 hcv4 hm4 hCr hjl
    (fun k hk => by unfold CrJ; rcases hk with rfl | rfl | rfl | rfl | rfl <;> simp)
    (fun s w' w'' h e => h.dep e) (goes_in Try.func34 (by kernel_rfl) rfl)
    (fun s c w' cv' nb' hc hI hDw hsz => crash1_any s c (hO.wok c hc) (hO.place c hc).1 (hO.place c hc).2.1 (hO.place c hc).2.2.1 (hO.place64 hc).2 (by have := hO.ok.1; omega) (by have := hO.ok.2.2.1; have := hO.ok.2.1; omega) hcap hkc hO.nl hDw hI)
  have HST := Lib.hid hST
  have c0'' : w4.cell? ⟨w.heap.size, 0, none⟩ = some (dp d) := (x0.same (hs4 _ x0.lt)).cell 0
  have HFV := Lib.hid hFV
  clear kcl kfz c0 cw0 cw1 cw2 hFV hST hw4 c0'
  go_wp2_with fail
  refine HST.out.mono ?_
  rintro e w5 ⟨rfl, hS5⟩
  obtain ⟨cv5, nb5, hD5, hcv5, hcb5, hnb5, hmn5, hm5, hCr5, hF5, hWO5, hle5⟩ := hS5
  have hcr : stl (crs D.conv keep) D.cache (⟨soft0, List.replicate D.n 0, true, (0, 0, z64), D.L⟩, [], D.last) = crashS D keep soft0 := rfl
  rw [hcr] at hcv5 hmn5 hm5 hCr5 hWO5 hle5
  clear hcr
  have hpg5 : ∀ a v, (crashS D keep soft0).2.2 a = some v → ∃ p : List Int, p.length = 64 ∧ v = pgv p := stl_pages _ _ _ hO.wok hO.pages
  have hla5 : (crashS D keep soft0).1.left = false → (crashS D keep soft0).1.last ∈ D.cache := crs_last _ _ D.cache _ _ (fun c hc => hc) (fun h => by cases h)
  have hCD0 := crashD_eq D keep soft0 tear
  generalize hrr : crashS D keep soft0 = r at hcv5 hmn5 hm5 hCr5 hWO5 hle5 hpg5 hla5 hCD0
  obtain ⟨s, ck, lk⟩ := r
  have hCD := hCD0 s ck lk rfl
  clear hCD0 hrr
  simp only at hcv5 hmn5 hm5 hCr5 hWO5 hle5 hpg5 hla5
  have cx5 : w5.cell? ⟨w.heap.size, 0, none⟩ = some (dp d) := hCr5.2.2.2.1.cell 0
  have c55 := hD5.mem.1
  have HPW := Lib.hid fun w' (hb : Below w5.heap.size w5 w') => zpower_any (some ⟨gz, 0, none⟩) D.n cz s.L w' hO.nl hCr5.2.2.2.2.2.2.1 hn0 (((Rd.own hCr5.2.2.2.2.2.1).below hb).more hb.size)
  have HQ := Lib.hid fun w6 (hb : Below w5.heap.size w5 w6) => (⟨(hb.cell (p := ⟨w.heap.size, 0, none⟩) hCr5.2.2.2.1.lt).trans cx5, (hb.cell (p := ⟨d, 5, none⟩) hD5.lt).trans c55, (hb.frozen (p := ⟨d, 5, none⟩) hD5.lt).trans (hD5.frozen 5)⟩ :
    w6.cell? ⟨w.heap.size, 0, none⟩ = some (dp d) ∧ w6.cell? ⟨d, 5, none⟩ = some (.slice (some ⟨gz, 0, none⟩) D.n cz) ∧ w6.frozen? ⟨d, 5, none⟩ = false)
  have H5 := Lib.hid (And.intro hD5 (And.intro hcv5 (And.intro hcb5 (And.intro hnb5 (And.intro hmn5 (And.intro hm5 (And.intro hCr5 (And.intro hF5 (And.intro hWO5 (And.intro hle5 (And.intro hpg5 (And.intro hla5 hCD))))))))))))
  have HG := Lib.hid (And.intro hD (And.intro hown (And.intro hcv (And.intro hm (And.intro t1 (And.intro t2 (And.intro t3 (And.intro hT (And.intro hz2 (And.intro hz3 (And.intro hz4 (And.intro l1 (And.intro l2 (And.intro l3 (And.intro l4 (And.intro l5 (And.intro hB2 (And.intro hB3 (And.intro hB4 (And.intro hs40 (And.intro x1 (And.intro hs4 hO))))))))))))))))))))))
  clear hD5 hcv5 hcb5 hnb5 hmn5 hm5 hCr5 hF5 hWO5 hle5 hpg5 hla5 hCD hD hown hcv hm hmn t1 t2 t3 t4 t5 hT hz2 hz3 hz4 l1 l2 l3 l4 l5 hB2 hB3 hB4 hs40 hs4 hs2 hO hL3 hL4 hCr hD4 hcv4 hm4 hjl hwok y0 y1 x0 x1 x2 hD2 hkr hkl hk64 hkT hn0 hcap hkc c0'' hst HST HLV
  go_wp2_with fail
  apply wp_meetE (fun w6 g c => w6.ownsRow w5.heap.size 66 2 (.slice (some ⟨g, 0, none⟩) D.n c) D.n (zc (s.L.map pow)) ∧ Below w5.heap.size w5 w6)
  · go_region_with ((with_reducible refine (HPW.out _ (Below.refl _ _).drew).mono ?_); rintro e w6 ⟨g6, c6, rfl, hown6, hb6⟩; have B6 : Below w5.heap.size w5 w6 := bthen (Below.refl _ _).drew hb6; obtain ⟨e1, e2, e3⟩ := HQ.out w6 B6)
    all_goals exact ⟨w6, g6, c6, ⟨hown6, B6⟩, rfl, rfl⟩
  intro w6 g6 c6 hR6
  obtain ⟨hown6, B6⟩ := hR6
  obtain ⟨hD5, hcv5, hcb5, hnb5, hmn5, hm5, hCr5, hF5, hWO5, hle5, hpg5, hla5, hCD⟩ := H5.out
  obtain ⟨hD, hown, hcv, hm, t1, t2, t3, hT, hz2, hz3, hz4, l1, l2, l3, l4, l5, hB2, hB3, hB4, hs40, x1, hs4, hO⟩ := HG.out
  have hdl := hD.lt
  have hz5 := hF5.size
  have e67 : ∀ x, x < w5.heap.size → x ≠ d → (w6.setCell ⟨d, 5, none⟩ (.slice (some ⟨g6, 0, none⟩) D.n c6)).heap[x]? = w5.heap[x]? := fun x hx hn => (heap_setCell_other _ _ _ _ hn).trans (B6.block x hx)
  have hD6 : DBlk w6 d D.conv D.soft D.seq D.size D.opn (.slice (some ⟨gz, 0, none⟩) D.n cz) lb cv5 nb5 D.down D.armed D.ill := hD5.same (B6.block _ hD5.lt)
  have hg6 : w5.heap.size ≤ g6 := by
    obtain ⟨g', e', x1, x2⟩ := own_at hown6 (by have := hO.ok.1; have := hO.ok.2.1; have := hO.ns; omega)
    injection e' with e'; injection e' with e'; omega
  have hD7 := hD6.set5 (.slice (some ⟨g6, 0, none⟩) D.n c6)
  have hown7 : (w6.setCell ⟨d, 5, none⟩ (.slice (some ⟨g6, 0, none⟩) D.n c6)).ownsRow 0 66 2 (.slice (some ⟨g6, 0, none⟩) D.n c6) D.n (zc (s.L.map pow)) :=
    own_base0 (own_same hown6 fun g hg => heap_setCell_other _ _ _ _ (by injection hg with hg; have hg : g6 = g := hg; show g ≠ d; omega)) (Nat.zero_le _)
  have hcv7 : (w6.setCell ⟨d, 5, none⟩ (.slice (some ⟨g6, 0, none⟩) D.n c6)).ownsRow 0 84 66 cv5 ck.length (wcs ck) := own_same hcv5 fun g hg => e67 g (hcv5.lt g hg).2 (by have := hcb5 g hg; omega)
  have hm7 : MapIs (w6.setCell ⟨d, 5, none⟩ (.slice (some ⟨g6, 0, none⟩) D.n c6)) lb (D.use + D.cache.length) lk := hm5.same (e67 _ hm5.lt (fun e => hD5.ne_map hm5 e.symm))
  have hmn7 : MapIs (w6.setCell ⟨d, 5, none⟩ (.slice (some ⟨g6, 0, none⟩) D.n c6)) nb5 ck.length (newestV ck) := hmn5.same (e67 _ hmn5.lt (by omega))
  have hx7 : Box (w6.setCell ⟨d, 5, none⟩ (.slice (some ⟨g6, 0, none⟩) D.n c6)) w.heap.size 27 [dp d] := hCr5.2.2.2.1.same (e67 _ hCr5.2.2.2.1.lt (by omega))
  have hbe7 : Box (w6.setCell ⟨d, 5, none⟩ (.slice (some ⟨g6, 0, none⟩) D.n c6)) w3.heap.size 4 [.bool s.left] := hCr5.2.2.1.same (e67 _ hCr5.2.2.1.lt (by omega))
  have hbt7 : Box (w6.setCell ⟨d, 5, none⟩ (.slice (some ⟨g6, 0, none⟩) D.n c6)) (w.heap.size + 2) 84 (wc s.last) := hCr5.2.1.same (e67 _ hCr5.2.1.lt (by omega))
  have hbw7 : Box (w6.setCell ⟨d, 5, none⟩ (.slice (some ⟨g6, 0, none⟩) D.n c6)) bw 46 [.slice keepA kn kc, .int .u64 soft0, .int .i64 tear] := hCr5.2.2.2.2.1.2.2.1.same (e67 _ hCr5.2.2.2.2.1.2.2.1.lt (by omega))
  have hF7 : Fr T w (w6.setCell ⟨d, 5, none⟩ (.slice (some ⟨g6, 0, none⟩) D.n c6)) := by
    have q1 : Fr T w w4 := (Fr.of_below hB2).trans ((Fr.of_below hB3).trans (Fr.of_below hB4))
    have q2 : Fr T w4 w5 := hF5.mono fun k _ hk => by
      rcases hk with h | h | h | h | h | h | h
      · exact h ▸ t1
      · exact h ▸ t3
      · exact hT k (by omega)
      · exact hT k (by omega)
      · exact hT k (by omega)
      · exact hT k (by omega)
      · exact h ▸ t2
    exact ((q1.trans q2).trans (Fr.of_below B6)).setCell _ _ t1
  have hz7 : (w6.setCell ⟨d, 5, none⟩ (.slice (some ⟨g6, 0, none⟩) D.n c6)).heap.size = w6.heap.size := by simp [World.setCell]
  have hz6 := B6.size
  have hw17 : Box (w6.setCell ⟨d, 5, none⟩ (.slice (some ⟨g6, 0, none⟩) D.n c6)) (w.heap.size + 1) 46 [.slice keepA kn kc, .int .u64 soft0, .int .i64 tear] := by
    have q5 : Box w5 (w.heap.size + 1) 46 [.slice keepA kn kc, .int .u64 soft0, .int .i64 tear] := by
      refine (x1.same (hs4 _ x1.lt)).same (hF5.same (by omega) ?_)
      have q1 := hm.lt
      have q2 := (hown.lt gz rfl).2
      rintro (h | h | h | h | h | h | h) <;> omega
    exact q5.same (e67 _ q5.lt (by omega))
  have HC : ∀ (w9 : World) (gz9 cz9 : Nat) (L9 : List Z) (last9 : Pl → Option Value), DBlk w9 d D.conv D.soft D.seq D.size D.opn (.slice (some ⟨gz9, 0, none⟩) D.n cz9) lb cv5 nb5 D.down D.armed D.ill → w9.ownsRow 0 66 2 (.slice (some ⟨gz9, 0, none⟩) D.n cz9) D.n (zc L9) →
      w9.ownsRow 0 84 66 cv5 ck.length (wcs ck) → MapIs w9 lb (D.use + D.cache.length + 1) last9 → MapIs w9 nb5 ck.length (newestV ck) → T gz9 → Fr T w w9 →
      DevIs T ((w9.setCell ⟨d, 9, none⟩ (.bool false)).setCell ⟨d, 10, none⟩ (.int .i64 0)).drew d { D with L := L9, last := last9, use := D.use + D.cache.length + 1, cache := ck, down := false, armed := 0 } ∧ Fr T w ((w9.setCell ⟨d, 9, none⟩ (.bool false)).setCell ⟨d, 10, none⟩ (.int .i64 0)).drew := by
    intro w9 gz9 cz9 L9 last9 k1 k2 k3 k4 k5 k6 k7
    have e : ∀ x, x ≠ d → ((w9.setCell ⟨d, 9, none⟩ (.bool false)).setCell ⟨d, 10, none⟩ (.int .i64 0)).heap[x]? = w9.heap[x]? := fun x hx => (heap_setCell_other _ _ _ _ hx).trans (heap_setCell_other _ _ _ _ hx)
    refine ⟨⟨gz9, cz9, lb, cv5, nb5, (k1.set9 false).set10 0, own_same k2 fun g hg => e g ?_, own_same k3 fun g hg => e g ?_, k4.same (e _ (fun h => k1.ne_map k4 h.symm)), k5.same (e _ (fun h => k1.ne_map k5 h.symm)), t1, k6, t3, hT _ (by omega), (fun g hg => hT _ (by have := hcb5 g hg; omega)), (by have := hm.lt; omega)⟩, ((k7.setCell _ _ t1).setCell _ _ t1).drew⟩
    · exact fun h => k1.ne_row k2 hg (by decide) h.symm
    · exact fun h => k1.ne_row k3 hg (by decide) h.symm
  have HC := Lib.hid HC
  have HTD := Lib.hid (And.intro t1 t3)
  have hT6 : T g6 := hT _ (by omega)
  have cx7 : (w6.setCell ⟨d, 5, none⟩ (.slice (some ⟨g6, 0, none⟩) D.n c6)).cell? ⟨w.heap.size, 0, none⟩ = some (dp d) := hx7.cell 0
  have ce7 : (w6.setCell ⟨d, 5, none⟩ (.slice (some ⟨g6, 0, none⟩) D.n c6)).cell? ⟨w3.heap.size, 0, none⟩ = some (.bool s.left) := hbe7.cell 0
  have ct7 : (w6.setCell ⟨d, 5, none⟩ (.slice (some ⟨g6, 0, none⟩) D.n c6)).cell? ⟨w.heap.size + 1, 2, none⟩ = some (.int .i64 tear) := hw17.cell 2
  have hlast := hCr5.2.2.2.2.2.2.2.1
  have hLl := hCr5.2.2.2.2.2.2.1
  have K := Lib.hid (And.intro hD7 (And.intro hown7 (And.intro hcv7 (And.intro hm7 (And.intro hmn7 (And.intro hbt7 (And.intro hF7 (And.intro hT6 (And.intro hx7 (And.intro hlast (And.intro hLl (And.intro hpg5 (And.intro hla5 hCD)))))))))))))
  have KG := Lib.hid (And.intro hO (And.intro hz2 (And.intro hz3 (And.intro hz4 (And.intro hz5 (And.intro hz6 (And.intro hz7 (And.intro hdl (And.intro hm.lt (And.intro hT (show nb5 ≠ lb from by have := hm.lt; omega)))))))))))
  clear e67 hD6 hD7 hown7 hcv7 hm7 hmn7 hx7 hbe7 hbt7 hbw7 hF7 hz7 hz6 hw17 hT6 hlast hLl hD5 hcv5 hcb5 hnb5 hmn5 hm5 hCr5 hF5 hWO5 hle5 hpg5 hla5 hCD hD hown hcv hm t1 t2 t3 hT hz2 hz3 hz4 hz5 l1 l2 l3 l4 l5 hB2 hB3 hB4 hs40 x1 hs4 hO hown6 B6 hg6 hdl HPW HQ H5 HG cx5 c55
  generalize w6.setCell ⟨d, 5, none⟩ (.slice (some ⟨g6, 0, none⟩) D.n c6) = w7 at K KG cx7 ce7 ct7 ⊢
  by_cases hgo : s.left = false ∧ 0 < tear
  · obtain ⟨hlf, htr⟩ := hgo
    have hq : decide (0 < tear) = true := decide_eq_true htr
    have hla := K.out.2.2.2.2.2.2.2.2.2.2.2.2.1 hlf
    have hpg := unpg_get (K.out.2.2.2.2.2.2.2.2.2.2.2.1 s.last.pl)
    have hTR := tear_any (w := w7) (d := d) g6 D.n c6 (D.use + D.cache.length) (s.L.map pow) s.last (min tear 64).toNat lk (unpg (lk s.last.pl)) K.out.2.2.2.2.2.2.2.2.2.1 (KG.out.1.place64 hla).1 (by omega) hpg.2 hpg.1 KG.out.1.nl KG.out.1.ok.some KG.out.1.ns
      (by have := KG.out.1.ok.2.2.2.2.2.2.2; omega) (by have := KG.out.1.use; have := KG.out.1.cl; omega) K.out.1 K.out.2.1 (by rw [List.length_map]; exact K.out.2.2.2.2.2.2.2.2.2.2.1) K.out.2.2.2.1
    have hcd : crashD D keep soft0 tear = { D with L := (tearL D.conv D.soft D.seq D.size D.opn (s.L.map pow) lk s.last (min tear 64).toNat (unpg (lk s.last.pl))).1, last := (tearL D.conv D.soft D.seq D.size D.opn (s.L.map pow) lk s.last (min tear 64).toNat (unpg (lk s.last.pl))).2, use := D.use + D.cache.length + 1, cache := ck, down := false, armed := 0 } := by
      rw [K.out.2.2.2.2.2.2.2.2.2.2.2.2.2, if_pos ⟨hlf, htr⟩]
    have HCD := Lib.hid hcd
    clear hcd hpg hla
    obtain ⟨m, hm66, hsz⟩ := big_size (P := Try.prog) (t := 84) (s := 66) (by kernel_rfl)
    have hlen : (wc s.last).length = m := by rw [wc_length K.out.2.2.2.2.2.2.2.2.2.1, hm66]
    have hld := big_load0 Try.prog (w.heap.size + 2) 0 (wc s.last) m hlen w7 (fun j v hj => by rw [Nat.zero_add]; exact (K.out.2.2.2.2.2.1.cell j).trans hj)
    have HM := Lib.hid (And.intro hm66 hlen)
    clear hm66 hlen
    obtain ⟨sf, kp, lf, la, Ls⟩ := s
    simp only at ce7 hlf hld hTR
    subst hlf
    by_cases h64 : tear ≤ 64
    · have he : ((min tear 64).toNat : Int) = tear := by omega
      rw [he] at hTR
      have HTR := Lib.hid hTR
      clear hTR he
      go_wp2_with fail
      all_goals
        refine HTR.out.mono ?_
        rintro x w8 ⟨rfl, gz8, cz8, k1, k2, k3, k4, k5⟩
        obtain ⟨z1, z2, z3, z4, z5, z6, z7, z8, z9⟩ := KG.out.2
        have n1 : ∀ x, x < w7.heap.size → x ≠ d → x ≠ lb → w8.heap[x]? = w7.heap[x]? := fun x hx h1 h2 => k5.same hx (fun h => h.elim h1 h2)
        have cxN : w8.cell? ⟨w.heap.size, 0, none⟩ = some (dp d) := (K.out.2.2.2.2.2.2.2.2.1.same (n1 _ K.out.2.2.2.2.2.2.2.2.1.lt (by omega) (by omega))).cell 0
        obtain ⟨c9, c10, c11⟩ := k1.num
        have f9 := k1.frozen 9
        have f10 := k1.frozen 10
        have HK := Lib.hid (And.intro k1 (And.intro k2 (And.intro k3 (And.intro k4 (And.intro k5 n1)))))
        clear k1 k2 k3 k4 k5 n1 z1 z2 z3 z4 z5 z6 z7 z8 z9 hld
        go_wp2_with fail
        apply wp_meet
        · go_region_law (fail)
          all_goals exact ⟨rfl, rfl⟩
        go_wp2
        go_end0
        rw [HCD.out]
        obtain ⟨k1, k2, k3, k4, k5, n1⟩ := HK.out
        exact ⟨rfl, HC.out w8 gz8 cz8 _ _ k1 k2 (own_same K.out.2.2.1 fun g hg => n1 g (K.out.2.2.1.lt g hg).2 (fun h => K.out.1.ne_row K.out.2.2.1 hg (by decide) h.symm) (fun h => K.out.2.2.2.1.ne_row K.out.2.2.1 hg h.symm)) k3
          (K.out.2.2.2.2.1.same (n1 _ K.out.2.2.2.2.1.lt (fun h => K.out.1.ne_map K.out.2.2.2.2.1 h.symm) KG.out.2.2.2.2.2.2.2.2.2.2)) (k4.elim (fun h => h ▸ K.out.2.2.2.2.2.2.2.1) (fun h => KG.out.2.2.2.2.2.2.2.2.2.1 _ (by have := K.out.2.2.2.2.2.2.1.size; omega))) (K.out.2.2.2.2.2.2.1.trans (k5.mono fun k _ h => h.elim (fun h => h ▸ HTD.out.1) (fun h => h ▸ HTD.out.2)))⟩
    · have he : ((min tear 64).toNat : Int) = 64 := by omega
      rw [he] at hTR
      have HTR := Lib.hid hTR
      clear hTR he
      go_wp2_with fail
      all_goals
        refine HTR.out.mono ?_
        rintro x w8 ⟨rfl, gz8, cz8, k1, k2, k3, k4, k5⟩
        obtain ⟨z1, z2, z3, z4, z5, z6, z7, z8, z9⟩ := KG.out.2
        have n1 : ∀ x, x < w7.heap.size → x ≠ d → x ≠ lb → w8.heap[x]? = w7.heap[x]? := fun x hx h1 h2 => k5.same hx (fun h => h.elim h1 h2)
        have cxN : w8.cell? ⟨w.heap.size, 0, none⟩ = some (dp d) := (K.out.2.2.2.2.2.2.2.2.1.same (n1 _ K.out.2.2.2.2.2.2.2.2.1.lt (by omega) (by omega))).cell 0
        obtain ⟨c9, c10, c11⟩ := k1.num
        have f9 := k1.frozen 9
        have f10 := k1.frozen 10
        have HK := Lib.hid (And.intro k1 (And.intro k2 (And.intro k3 (And.intro k4 (And.intro k5 n1)))))
        clear k1 k2 k3 k4 k5 n1 z1 z2 z3 z4 z5 z6 z7 z8 z9 hld
        go_wp2_with fail
        apply wp_meet
        · go_region_law (fail)
          all_goals exact ⟨rfl, rfl⟩
        go_wp2
        go_end0
        rw [HCD.out]
        obtain ⟨k1, k2, k3, k4, k5, n1⟩ := HK.out
        exact ⟨rfl, HC.out w8 gz8 cz8 _ _ k1 k2 (own_same K.out.2.2.1 fun g hg => n1 g (K.out.2.2.1.lt g hg).2 (fun h => K.out.1.ne_row K.out.2.2.1 hg (by decide) h.symm) (fun h => K.out.2.2.2.1.ne_row K.out.2.2.1 hg h.symm)) k3
          (K.out.2.2.2.2.1.same (n1 _ K.out.2.2.2.2.1.lt (fun h => K.out.1.ne_map K.out.2.2.2.2.1 h.symm) KG.out.2.2.2.2.2.2.2.2.2.2)) (k4.elim (fun h => h ▸ K.out.2.2.2.2.2.2.2.1) (fun h => KG.out.2.2.2.2.2.2.2.2.2.1 _ (by have := K.out.2.2.2.2.2.2.1.size; omega))) (K.out.2.2.2.2.2.2.1.trans (k5.mono fun k _ h => h.elim (fun h => h ▸ HTD.out.1) (fun h => h ▸ HTD.out.2)))⟩
  · have hcd : crashD D keep soft0 tear = { D with L := s.L.map pow, last := lk, use := D.use + D.cache.length + 1, cache := ck, down := false, armed := 0 } := by
      rw [K.out.2.2.2.2.2.2.2.2.2.2.2.2.2, if_neg hgo]
    have HCD := Lib.hid hcd
    clear hcd
    obtain ⟨sf, kp, lf, la, Ls⟩ := s
    simp only at ce7 hgo
    by_cases hlf : lf = true
    · subst hlf
      clear hgo
      have hDN := K.out.1
      obtain ⟨c9, c10, c11⟩ := hDN.num
      have f9 := hDN.frozen 9
      have f10 := hDN.frozen 10
      have cxN := cx7
      clear hDN
      go_wp2_with fail
      apply wp_meet
      · go_region_law (fail)
        all_goals exact ⟨rfl, rfl⟩
      go_wp2
      go_end0
      rw [HCD.out]
      exact ⟨rfl, HC.out _ _ _ _ _ K.out.1 K.out.2.1 K.out.2.2.1 (K.out.2.2.2.1.mono (by omega)) K.out.2.2.2.2.1 K.out.2.2.2.2.2.2.2.1 K.out.2.2.2.2.2.2.1⟩

    · obtain rfl : lf = false := by simpa using hlf
      have ht : decide (0 < tear) = false := decide_eq_false (fun h => hgo ⟨rfl, h⟩)
      clear hgo hlf
      have hDN := K.out.1
      obtain ⟨c9, c10, c11⟩ := hDN.num
      have f9 := hDN.frozen 9
      have f10 := hDN.frozen 10
      have cxN := cx7
      clear hDN
      go_wp2_with fail
      apply wp_meet
      · go_region_law (fail)
        all_goals exact ⟨rfl, rfl⟩
      go_wp2
      go_end0
      rw [HCD.out]
      exact ⟨rfl, HC.out _ _ _ _ _ K.out.1 K.out.2.1 K.out.2.2.1 (K.out.2.2.2.1.mono (by omega)) K.out.2.2.2.2.1 K.out.2.2.2.2.2.2.2.1 K.out.2.2.2.2.2.2.1⟩
end
end Go.Proofs.Ythgjlofebicpiaa

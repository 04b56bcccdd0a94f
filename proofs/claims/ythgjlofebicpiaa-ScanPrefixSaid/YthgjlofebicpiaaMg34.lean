/-
  DevPu
-/
import Derived.Test.YthgjlofebicpiaaMg33
import Derived.Test.YthgjlofebicpiaaMg31
import Derived.Test.YthgjlofebicpiaaMg20
/-
  Package dev: plain mathematics: what is done with a device keeps it right.
  Package dev: plain mathematics: what a crash leaves of writes that follow one another in one zone.
  Package dev: plain mathematics: what is read behind a crash of what was flushed and written.
  Package windrowref05: Little.
-/
namespace Go.Proofs.Ythgjlofebicpiaa
open Go.RowKit Geom Zone Dev
set_option linter.unusedVariables false

namespace Dev
section
variable {conv soft seq size opn zone off : Int} {L : List Z}
theorem fit_put {i : Nat} {z z' : Z} (h : Fit conv seq size opn L) (hz : L[i]? = some z) (h1 : z'.1 ≠ 1) (hf : fitZ conv size i z') : Fit conv seq size opn (L.set i z') := by
  obtain ⟨hn, hc, hl⟩ := h
  refine ⟨by simpa using hn, ?_, fun j hj => ?_⟩
  · have := cnt_set (z' := z') hz (fun e => absurd e h1)
    omega
  · have hj2 : j < L.length := by simpa using hj
    by_cases e : j = i
    · subst e
      rw [List.getD_eq_getElem?_getD, List.getElem?_set_self hj2]
      exact hf
    · rw [List.getD_eq_getElem?_getD, List.getElem?_set_ne (Ne.symm e), ← List.getD_eq_getElem?_getD]
      exact hl j hj2
theorem fit_cut (hs : 8 ≤ size) (h : Fit conv seq size opn L) (h0 : 0 ≤ zone) (h1 : zone < conv + seq) (ho : 0 ≤ off) : Fit conv seq size opn (cutL L zone off) := by
  have hz := zat_get h.1 h0 h1
  have hj : fitZ conv size zone.toNat (zat L zone) := h.2.2 zone.toNat (by have := h.1; omega)
  unfold cutL
  generalize zat L zone = z at hz hj
  unfold fitZ at hj
  split
  · exact h
  · rename_i hc
    split
    · refine fit_put h hz (by decide) ?_
      unfold fitZ
      exact .inr ⟨by omega, .inl ⟨rfl, rfl⟩⟩
    · refine fit_put h hz (by show (2 : Int) ≠ 1; decide) ?_
      unfold fitZ
      exact .inr ⟨by omega, .inr (.inr (.inl ⟨rfl, by show 0 < off; omega, by show off < size; omega⟩))⟩
theorem fit_pow (hs : 8 ≤ size) (h : Fit conv seq size opn L) : Fit conv seq size opn (L.map pow) := by
  have := act_fit (soft := 0) (k := 6) (zone := 0) (off := 0) hs h
  rwa [act_6] at this
theorem fit_tear {last : Pl → Option Value} {c : Wr} {tn : Nat} {p : List Int} (hs : 8 ≤ size) (h : Fit conv seq size opn L) : Fit conv seq size opn (tearL conv soft seq size opn L last c tn p).1 := by
  unfold tearL
  split
  · exact fit_pow hs (fit_write hs h)
  · exact h
theorem crs_fit (hs : 8 ≤ size) (keep : List Int) : ∀ (l : List Wr) (s : Cst × List Wr × (Pl → Option Value)), (∀ c ∈ l, 0 ≤ c.1 ∧ c.1 < conv + seq ∧ 0 ≤ c.2.1) → Fit conv seq size opn s.1.L → Fit conv seq size opn (stl (crs conv keep) l s).1.L
  | [], (σ, k, f), _, h => h
  | c :: r, (σ, k, f), hw, h => crs_fit hs keep r _ (fun x hx => hw x (by simp [hx])) (by
    obtain ⟨p0, p1, p2⟩ := hw c (by simp)
    show Fit conv seq size opn (crs conv keep σ c).2.L
    unfold crs
    split
    · exact h
    · exact fit_cut hs h p0 p1 p2)
theorem crs_cache (keep : List Int) : ∀ (l : List Wr) (s : Cst × List Wr × (Pl → Option Value)), (stl (crs conv keep) l s).2.1 = s.2.1
  | [], (σ, k, f) => rfl
  | c :: r, (σ, k, f) => (crs_cache keep r _).trans (by
    show (if (crs conv keep σ c).1 = 0 then k ++ [c] else k) = k
    have : (crs conv keep σ c).1 ≠ 0 := by
      unfold crs
      split
      · exact (by decide : (1 : Int) ≠ 0)
      · exact (by decide : (2 : Int) ≠ 0)
    rw [if_neg this])
end
theorem stl_sub {St : Type} (step : St → Wr → Int × St) : ∀ (l : List Wr) (s : St × List Wr × (Pl → Option Value)), ∃ r, r.Sublist l ∧ (stl step l s).2.1 = s.2.1 ++ r
  | [], (σ, k, f) => ⟨[], List.Sublist.refl _, by simp [stl]⟩
  | c :: l, (σ, k, f) => by
    obtain ⟨r, h1, h2⟩ := stl_sub step l ((step σ c).2, if (step σ c).1 = 0 then k ++ [c] else k, if (step σ c).1 = 1 then updM f c.pl (some (pgv c.2.2)) else f)
    refine (?_ : ∃ r', r'.Sublist (c :: l) ∧ (stl step l ((step σ c).2, if (step σ c).1 = 0 then k ++ [c] else k, if (step σ c).1 = 1 then updM f c.pl (some (pgv c.2.2)) else f)).2.1 = k ++ r')
    rw [h2]
    by_cases h : (step σ c).1 = 0
    · exact ⟨c :: r, h1.cons_cons c, by simp [h]⟩
    · exact ⟨r, h1.cons c, by simp [h]⟩
/-- right, and not yet grown beyond k acts -/
structure DvN (k : Nat) (D : Dv) : Prop where
  ok : DvOk D
  c : D.cache.length ≤ k
  u : D.use ≤ 1000 * k
  i : D.ill ≤ k
theorem tick_ok {k : Nat} {D : Dv} (h : DvN k D) : DvN k (tick D) := by
  unfold tick
  split
  · rename_i ha
    obtain ⟨⟨h1, h2, h3, h4, h5, h6, h7, h8, h9, h10, h11, h12, h13⟩, hc, hu, hi⟩ := h
    exact ⟨⟨h1, h2, h3, h4, h5, h6, h7, h8, h9, h10, h11, by show 0 ≤ D.armed - 1; omega, by show D.armed - 1 ≤ _; omega⟩, hc, hu, hi⟩
  · exact h
theorem DvN.mono {k m : Nat} {D : Dv} (h : DvN k D) (hm : k ≤ m) : DvN m D := ⟨h.ok, by have := h.c; omega, by have := h.u; omega, by have := h.i; omega⟩
theorem DvN.refused {k : Nat} {D : Dv} (h : DvN k D) (hk : k ≤ 500) : DvN (k + 1) { D with ill := D.ill + 1 } := by
  obtain ⟨⟨h1, h2, h3, h4, h5, h6, h7, h8, h9, h10, h11, h12, h13⟩, hc, hu, hi⟩ := h
  exact ⟨⟨h1, h2, h3, h4, h5, h6, h7, h8, h9, by show 0 ≤ D.ill + 1; omega, by show D.ill + 1 ≤ _; omega, h12, h13⟩, by show D.cache.length ≤ _; omega, by show D.use ≤ _; omega, by show D.ill + 1 ≤ _; push_cast; omega⟩
theorem sort_ok {k : Nat} {D : Dv} (step : Wr → Int) (h : DvN k D) (hk : k ≤ 500) : DvN (k + 1) (sortD step D) := by
  obtain ⟨⟨h1, h2, h3, h4, h5, h6, h7, h8, h9, h10, h11, h12, h13⟩, hc, hu, hi⟩ := h
  obtain ⟨r, hr, e⟩ := stl_sub (fun (_ : Unit) c => (step c, ())) D.cache ((), [], D.last)
  have e2 : (sortD step D).cache = r := by
    show (stl (fun (_ : Unit) c => (step c, ())) D.cache ((), [], D.last)).2.1 = r
    rw [e]
    rfl
  have hl := hr.length_le
  exact ⟨⟨h1, h2, h3, h4, by rw [e2]; exact fun c hm => h5 c (hr.subset hm), by rw [e2]; exact fun c hm => h6 c (hr.subset hm), stl_pages _ _ _ h5 h7, by show D.use + D.cache.length ≤ _; omega, by rw [e2]; omega, h10, h11, h12, h13⟩,
    by rw [e2]; omega, by show D.use + D.cache.length ≤ _; omega, by show D.ill ≤ _; push_cast; omega⟩
theorem DvN.withL {k : Nat} {D : Dv} (h : DvN k D) {L' : List Z} (hf : Fit D.conv D.seq D.size D.opn L') : DvN k { D with L := L' } := ⟨h.ok.withL hf, h.c, h.u, h.i⟩
theorem flush_ok {k : Nat} {D : Dv} (h : DvN k D) (hk : k ≤ 500) : DvN (k + 1) (flushD D).2 := by
  unfold flushD
  split
  · exact h.mono (Nat.le_succ _)
  · exact tick_ok (sort_ok _ h hk)
theorem finish_ok {k : Nat} {D : Dv} (z : Int) (h : DvN k D) (hk : k ≤ 500) : DvN (k + 1) (finishD D z).2 := by
  unfold finishD
  split
  · exact h.mono (Nat.le_succ _)
  split
  · exact h.refused hk
  · exact tick_ok (sort_ok _ (h.withL (fit_finish (soft := D.soft) h.ok.ok.2.2.2.1 h.ok.fit)) hk)
theorem reset_ok {k : Nat} {D : Dv} (z : Int) (h : DvN k D) (hk : k ≤ 500) : DvN (k + 1) (resetD D z).2 := by
  unfold resetD
  split
  · exact h.mono (Nat.le_succ _)
  split
  · exact h.refused hk
  · have h2 := sort_ok (zstep z 2) (h.withL (fit_reset (soft := D.soft) (zone := z) h.ok.ok.2.2.2.1 h.ok.fit)) hk
    obtain ⟨⟨h1, h2, h3, h4, h5, h6, h7, h8, h9, h10, h11, h12, h13⟩, hc, hu, hi⟩ := h2
    refine tick_ok ⟨⟨h1, h2, h3, h4, h5, h6, fun a v hv => ?_, h8, h9, h10, h11, h12, h13⟩, hc, hu, hi⟩
    have hv : dropTo _ _ _ a = some v := hv
    unfold dropTo at hv
    split at hv
    · cases hv
    · exact h7 a v hv
theorem write_ok {k : Nat} {D : Dv} (c : Wr) (hc : c.2.2.length = 64) (h : DvN k D) (hk : k ≤ 500) : DvN (k + 1) (writeD D c).2 := by
  unfold writeD
  split
  · exact h.mono (Nat.le_succ _)
  split
  · exact h.refused hk
  · rename_i hd he
    have hin : inB D.conv D.soft D.seq D.size c.1 c.2.1 = true := by
      cases hi : inB D.conv D.soft D.seq D.size c.1 c.2.1 with
      | true => rfl
      | false => exact absurd (by unfold writeL; rw [hi]; simp) he
    have p1 := has_in (in_has hin)
    have p2 := in_in hin
    have hf := fit_write (soft := D.soft) (zone := c.1) (off := c.2.1) h.ok.ok.2.2.2.1 h.ok.fit
    obtain ⟨⟨h1, h2, h3, h4, h5, h6, h7, h8, h9, h10, h11, h12, h13⟩, hcl, hu, hi⟩ := h
    refine tick_ok ⟨⟨h1, h2, h3, hf, ?_, ?_, h7, h8, by show (D.cache ++ [c]).length ≤ _; simp; omega, h10, h11, h12, h13⟩, by show (D.cache ++ [c]).length ≤ _; simp; omega, by show D.use ≤ _; omega, by show D.ill ≤ _; push_cast; omega⟩
    · intro x hx
      rcases List.mem_append.1 hx with hx | hx
      · exact h5 x hx
      · obtain rfl := List.mem_singleton.1 hx
        exact hc
    · intro x hx
      rcases List.mem_append.1 hx with hx | hx
      · exact h6 x hx
      · obtain rfl := List.mem_singleton.1 hx
        exact ⟨p1.1, by show x.1 < (D.n : Int); omega, p2⟩
theorem tear_pages {conv soft seq size opn : Int} {L : List Z} {last : Pl → Option Value} {c : Wr} {tn : Nat} {p : List Int} (ht : tn ≤ 64) (hc : c.2.2.length = 64) (hp : p.length = 64) (h : ∀ a v, last a = some v → ∃ p : List Int, p.length = 64 ∧ v = pgv p) :
    ∀ a v, (tearL conv soft seq size opn L last c tn p).2 a = some v → ∃ p : List Int, p.length = 64 ∧ v = pgv p := by
  intro a v hv
  unfold tearL at hv
  split at hv
  · simp only [updM] at hv
    split at hv
    · injection hv with hv
      exact ⟨_, by simp; omega, hv.symm⟩
    · exact h a v hv
  · exact h a v hv
theorem crash_ok {k : Nat} {D : Dv} (keep : List Int) (soft0 tear : Int) (h : DvN k D) (hk : k ≤ 500) : DvN (k + 1) (crashD D keep soft0 tear) := by
  obtain ⟨⟨h1, h2, h3, h4, h5, h6, h7, h8, h9, h10, h11, h12, h13⟩, hcl, hu, hi⟩ := h
  have e1 : (crashS D keep soft0).2.1 = [] := crs_cache keep D.cache _
  have e2 : Fit D.conv D.seq D.size D.opn (crashS D keep soft0).1.L := crs_fit h1.2.2.2.1 keep D.cache _ (fun c hc => by obtain ⟨p0, p1, p2, _⟩ := h6 c hc; exact ⟨p0, by omega, p2⟩) h4
  have e3 : ∀ a v, (crashS D keep soft0).2.2 a = some v → ∃ p : List Int, p.length = 64 ∧ v = pgv p := stl_pages _ _ _ h5 h7
  have e4 : (crashS D keep soft0).1.left = false → (crashS D keep soft0).1.last ∈ D.cache := crs_last D.conv keep D.cache D.cache _ (fun c hc => hc) (fun hl => Bool.noConfusion (hl : true = false))
  have e5 : (crashD D keep soft0 tear).cache = [] := e1
  have e6 : Fit D.conv D.seq D.size D.opn (crashD D keep soft0 tear).L := by
    show Fit D.conv D.seq D.size D.opn (Prod.fst (if (crashS D keep soft0).1.left = false ∧ 0 < tear then _ else _))
    split
    · exact fit_tear h1.2.2.2.1 (fit_pow h1.2.2.2.1 e2)
    · exact fit_pow h1.2.2.2.1 e2
  have e7 : ∀ a v, (crashD D keep soft0 tear).last a = some v → ∃ p : List Int, p.length = 64 ∧ v = pgv p := by
    have e8 : (crashD D keep soft0 tear).last = Prod.snd (if (crashS D keep soft0).1.left = false ∧ 0 < tear then tearL D.conv D.soft D.seq D.size D.opn ((crashS D keep soft0).1.L.map pow) (crashS D keep soft0).2.2 (crashS D keep soft0).1.last (min tear 64).toNat (unpg ((crashS D keep soft0).2.2 (crashS D keep soft0).1.last.pl)) else ((crashS D keep soft0).1.L.map pow, (crashS D keep soft0).2.2)) := rfl
    rw [e8]
    split
    · rename_i hl
      exact tear_pages (by omega) (h5 _ (e4 hl.1)) (unpg_get (e3 _)).2 e3
    · exact e3
  refine ⟨⟨h1, h2, h3, e6, by rw [e5]; exact fun c hc => absurd hc (by simp), by rw [e5]; exact fun c hc => absurd hc (by simp), e7, by show D.use + D.cache.length + 1 ≤ _; omega, by rw [e5]; simp, h10, h11, Int.le_refl 0, by show (0 : Int) ≤ _; decide⟩,
    by rw [e5]; simp, by show D.use + D.cache.length + 1 ≤ _; omega, by show D.ill ≤ _; push_cast; omega⟩
theorem w64_le {a : Int} (h : W64 a) : a ≤ 9223372036854775807 := by
  simp [W64, Lit.wf, IntKind.min, IntKind.max, IntKind.signed, IntKind.bits] at h
  omega
theorem armD_ok {k : Nat} {D : Dv} {n : Int} (hn : W64 n) (h : DvN k D) : DvN k (armD D n) := by
  unfold armD
  split
  · exact h
  · have hn := w64_le hn
    obtain ⟨⟨h1, h2, h3, h4, h5, h6, h7, h8, h9, h10, h11, h12, h13⟩, hc, hu, hi⟩ := h
    exact ⟨⟨h1, h2, h3, h4, h5, h6, h7, h8, h9, h10, h11, by show 0 ≤ max n 0; omega, by show max n 0 ≤ _; omega⟩, hc, hu, hi⟩
theorem play_ok {k : Nat} {D : Dv} (x : AD) (hp : x.p.length = 64) (hn : W64 x.n) (h : DvN k D) (hk : k ≤ 500) : DvN (k + 1) (playD D x).2 := by
  unfold playD
  split
  · exact reset_ok _ h hk
  split
  · exact finish_ok _ h hk
  split
  · exact flush_ok h hk
  split
  · exact (armD_ok hn h).mono (Nat.le_succ _)
  split
  · exact crash_ok _ _ _ h hk
  · exact write_ok _ hp h hk
theorem new_ok {conv soft seq size opn : Int} {n : Nat} (H : Ok conv soft seq size opn) (hn : (n : Int) = conv + seq) : DvN 0 (newD conv soft seq size opn n) := by
  have h1 := H.1
  have h2 := H.2.1
  have h3 := H.2.2.1
  have h4 := H.2.2.2.2.2.1
  have ok : DvOk (newD conv soft seq size opn n) := {
    ok := H
    ns := hn
    nl := by show n ≤ 1000; omega
    fit := fit_new hn (show 0 ≤ conv by omega) (show 0 ≤ seq by omega) (show 0 ≤ opn by omega)
    wok := fun c hc => absurd hc (by simp [newD])
    place := fun c hc => absurd hc (by simp [newD])
    pages := fun a v hv => by cases (hv : none = some v)
    use := Nat.zero_le _
    cl := Nat.zero_le _
    ill0 := Int.le_refl 0
    ill1 := (by decide : (0 : Int) ≤ 1000000)
    arm0 := Int.le_refl 0
    arm1 := (by decide : (0 : Int) ≤ 9223372036854775807) }
  exact ⟨ok, Nat.zero_le _, Nat.zero_le _, Int.le_refl 0⟩
end Dev
end Go.Proofs.Ythgjlofebicpiaa
namespace Go.Proofs.Ythgjlofebicpiaa
open Go.RowKit Geom Zone Dev
set_option linter.unusedVariables false

namespace Dev
/-- writes that follow one another in one zone -/
def run (z : Int) : Int → List (List Int) → List Wr
  | _, [] => []
  | o, p :: r => (z, o, p) :: run z (o + 1) r
theorem run_snoc (z : Int) (p : List Int) : ∀ (ps : List (List Int)) (o : Int), run z o (ps ++ [p]) = run z o ps ++ [(z, o + ps.length, p)]
  | [], o => by simp [run]
  | q :: r, o => by
    show (z, o, q) :: run z (o + 1) (r ++ [p]) = (z, o, q) :: run z (o + 1) r ++ [(z, o + ((r.length + 1 : Nat) : Int), p)]
    rw [run_snoc z p r (o + 1)]
    simp only [List.cons_append]
    rw [show o + 1 + (r.length : Int) = o + ((r.length + 1 : Nat) : Int) by push_cast; omega]
theorem run_length (z : Int) : ∀ (ps : List (List Int)) (o : Int), (run z o ps).length = ps.length
  | [], _ => rfl
  | _ :: r, o => by simp [run, run_length z r (o + 1)]
/-- what lasts, with writes laid over it -/
def updR (f : Pl → Option Value) (l : List Wr) : Pl → Option Value := l.foldl (fun f c => updM f c.pl (some (pgv c.2.2))) f
theorem updR_run (z : Int) : ∀ (ps : List (List Int)) (o : Int) (f : Pl → Option Value) (a : Pl), updR f (run z o ps) a = if a.1 = z ∧ o ≤ a.2 ∧ a.2 < o + ps.length then (ps[(a.2 - o).toNat]?).map pgv else f a
  | [], o, f, a => by
    rw [if_neg (by rintro ⟨_, h1, h2⟩; simp at h2; omega)]
    rfl
  | p :: r, o, f, a => by
    show updR (updM f (z, o) (some (pgv p))) (run z (o + 1) r) a = _
    rw [updR_run z r (o + 1)]
    have hl : ((p :: r).length : Int) = r.length + 1 := by simp
    by_cases h1 : a.1 = z ∧ o + 1 ≤ a.2 ∧ a.2 < o + 1 + r.length
    · rw [if_pos h1, if_pos ⟨h1.1, by omega, by omega⟩, show (a.2 - o).toNat = (a.2 - (o + 1)).toNat + 1 by omega, List.getElem?_cons_succ]
    · rw [if_neg h1]
      unfold updM
      by_cases h2 : a = (z, o)
      · subst h2
        rw [if_pos rfl, if_pos ⟨rfl, by show o ≤ o; omega, by show o < o + _; omega⟩]
        simp
      · rw [if_neg h2, if_neg]
        rintro ⟨e1, e2, e3⟩
        refine h1 ⟨e1, ?_, by omega⟩
        rcases Int.lt_or_eq_of_le e2 with h | h
        · omega
        · exact absurd (Prod.ext e1 h.symm) h2
section
variable {conv z : Int} {keep kept : List Int}
theorem zat_set {L : List Z} (v : Z) (h : z.toNat < L.length) : zat (L.set z.toNat v) z = v := by
  unfold zat
  rw [List.getD_eq_getElem?_getD, List.getElem?_set_self h]
  rfl
theorem cut_point {L : List Z} {o : Int} (h : z.toNat < L.length) (ho : 0 ≤ o) : (zat (cutL L z o) z).1 = 4 ∨ (zat (cutL L z o) z).2 ≤ o := by
  unfold cutL
  split
  · assumption
  split
  · rw [zat_set _ h]
    exact .inr ho
  · rw [zat_set _ h]
    exact .inr (Int.le_refl _)
theorem cut_same {L : List Z} {o : Int} (h : (zat L z).1 = 4 ∨ (zat L z).2 ≤ o) : cutL L z o = L := if_pos h
theorem lvs_lost {soft : Int} (hz : conv ≤ z) (hC : keep.length ≤ (z - conv).toNat ∨ keep.getD (z - conv).toNat 0 ≤ kept.getD (z - conv).toNat 0) : lvs conv keep soft kept z = (false, soft, kept) := by
  unfold lvs
  rw [if_neg (by omega), if_pos hC]
theorem lvs_left {soft : Int} (hz : conv ≤ z) (hC : ¬ (keep.length ≤ (z - conv).toNat ∨ keep.getD (z - conv).toNat 0 ≤ kept.getD (z - conv).toNat 0)) : lvs conv keep soft kept z = (true, soft, kept.set (z - conv).toNat (kept.getD (z - conv).toNat 0 + 1)) := by
  unfold lvs
  rw [if_neg (by omega), if_neg hC]
theorem lost_run (hz : conv ≤ z) (hC : keep.length ≤ (z - conv).toNat ∨ keep.getD (z - conv).toNat 0 ≤ kept.getD (z - conv).toNat 0) : ∀ (ps : List (List Int)) (o : Int) (s : Cst × List Wr × (Pl → Option Value)), s.1.kept = kept → ((zat s.1.L z).1 = 4 ∨ (zat s.1.L z).2 ≤ o) →
    (stl (crs conv keep) (run z o ps) s).1.L = s.1.L ∧ (stl (crs conv keep) (run z o ps) s).2.2 = s.2.2 ∧ (ps ≠ [] → (stl (crs conv keep) (run z o ps) s).1.left = false) ∧ (s.1.left = false → (stl (crs conv keep) (run z o ps) s).1.left = false) ∧
      (stl (crs conv keep) (run z o ps) s).1.last = ((run z o ps).getLast?).getD s.1.last
  | [], o, (σ, k, f), _, _ => ⟨rfl, rfl, fun h => absurd rfl h, fun h => h, rfl⟩
  | p :: r, o, (σ, k, f), hk, hp => by
    have e : crs conv keep σ (z, o, p) = (2, ⟨σ.soft, σ.kept, false, (z, o, p), σ.L⟩) := by
      have hk : σ.kept = kept := hk
      unfold crs
      rw [show lvs conv keep σ.soft σ.kept (z, o, p).1 = (false, σ.soft, σ.kept) from by rw [hk]; exact lvs_lost hz hC, if_neg (by simp)]
      show (2, (⟨σ.soft, σ.kept, false, (z, o, p), cutL σ.L z o⟩ : Cst)) = _
      rw [cut_same hp]
    have ih := lost_run hz hC r (o + 1) (⟨σ.soft, σ.kept, false, (z, o, p), σ.L⟩, k, f) hk (hp.imp (fun h => h) (fun h => by show (zat σ.L z).2 ≤ o + 1; have h : (zat σ.L z).2 ≤ o := h; omega))
    have e2 : stl (crs conv keep) (run z o (p :: r)) (σ, k, f) = stl (crs conv keep) (run z (o + 1) r) (⟨σ.soft, σ.kept, false, (z, o, p), σ.L⟩, k, f) := by
      show stl (crs conv keep) (run z (o + 1) r) ((crs conv keep σ (z, o, p)).2, if (crs conv keep σ (z, o, p)).1 = 0 then _ else k, if (crs conv keep σ (z, o, p)).1 = 1 then _ else f) = _
      rw [e]
      rfl
    rw [e2]
    refine ⟨ih.1, ih.2.1, fun _ => ih.2.2.2.1 rfl, fun _ => ih.2.2.2.1 rfl, ih.2.2.2.2.trans ?_⟩
    show ((run z (o + 1) r).getLast?).getD (z, o, p) = (((z, o, p) :: run z (o + 1) r).getLast?).getD σ.last
    cases run z (o + 1) r with
    | nil => rfl
    | cons x y => simp [List.getLast?_eq_some_getLast]
/-- of writes that follow one another in a sequential zone a beginning is left; the zone is cut to it -/
theorem crash_run (hz : conv ≤ z) : ∀ (ps : List (List Int)) (o : Int) (s : Cst × List Wr × (Pl → Option Value)), 0 ≤ o → (z - conv).toNat < s.1.kept.length → z.toNat < s.1.L.length → ∃ m, m ≤ ps.length ∧
    (stl (crs conv keep) (run z o ps) s).1.L = (if m = ps.length then s.1.L else cutL s.1.L z (o + m)) ∧ (stl (crs conv keep) (run z o ps) s).2.2 = updR s.2.2 (run z o (ps.take m)) ∧
      (m < ps.length → (stl (crs conv keep) (run z o ps) s).1.left = false) ∧ (m = ps.length → ps ≠ [] → (stl (crs conv keep) (run z o ps) s).1.left = true) ∧ (ps = [] → (stl (crs conv keep) (run z o ps) s).1.left = s.1.left) ∧
        (stl (crs conv keep) (run z o ps) s).1.last = ((run z o ps).getLast?).getD s.1.last
  | [], o, (σ, k, f), _, _, _ => ⟨0, Nat.le_refl _, rfl, rfl, fun h => absurd h (by simp), fun _ h => absurd rfl h, fun _ => rfl, rfl⟩
  | p :: r, o, (σ, k, f), ho, hl, hL => by
    have hlast : ∀ d, ((run z (o + 1) r).getLast?).getD (z, o, p) = (((z, o, p) :: run z (o + 1) r).getLast?).getD d := fun d => by
      cases run z (o + 1) r with
      | nil => rfl
      | cons x y => simp [List.getLast?_eq_some_getLast]
    by_cases hC : keep.length ≤ (z - conv).toNat ∨ keep.getD (z - conv).toNat 0 ≤ σ.kept.getD (z - conv).toNat 0
    · have e : crs conv keep σ (z, o, p) = (2, ⟨σ.soft, σ.kept, false, (z, o, p), cutL σ.L z o⟩) := by
        unfold crs
        rw [show lvs conv keep σ.soft σ.kept (z, o, p).1 = (false, σ.soft, σ.kept) from lvs_lost hz hC, if_neg (by simp)]
      have e2 : stl (crs conv keep) (run z o (p :: r)) (σ, k, f) = stl (crs conv keep) (run z (o + 1) r) (⟨σ.soft, σ.kept, false, (z, o, p), cutL σ.L z o⟩, k, f) := by
        show stl (crs conv keep) (run z (o + 1) r) ((crs conv keep σ (z, o, p)).2, if (crs conv keep σ (z, o, p)).1 = 0 then _ else k, if (crs conv keep σ (z, o, p)).1 = 1 then _ else f) = _
        rw [e]
        rfl
      have ih := lost_run (kept := σ.kept) hz hC r (o + 1) (⟨σ.soft, σ.kept, false, (z, o, p), cutL σ.L z o⟩, k, f) rfl ((cut_point hL ho).imp (fun h => h) (fun h => by show (zat (cutL σ.L z o) z).2 ≤ o + 1; have h : (zat (cutL σ.L z o) z).2 ≤ o := h; omega))
      rw [e2]
      exact ⟨0, Nat.zero_le _, by rw [if_neg (by simp)]; exact ih.1.trans (by simp), ih.2.1, fun _ => ih.2.2.2.1 rfl, fun h => absurd h (by simp), fun h => absurd h (by simp), ih.2.2.2.2.trans (hlast _)⟩
    · have e : crs conv keep σ (z, o, p) = (1, ⟨σ.soft, σ.kept.set (z - conv).toNat (σ.kept.getD (z - conv).toNat 0 + 1), true, (z, o, p), σ.L⟩) := by
        unfold crs
        rw [show lvs conv keep σ.soft σ.kept (z, o, p).1 = (true, σ.soft, σ.kept.set (z - conv).toNat (σ.kept.getD (z - conv).toNat 0 + 1)) from lvs_left hz hC, if_pos rfl]
      have e2 : stl (crs conv keep) (run z o (p :: r)) (σ, k, f) = stl (crs conv keep) (run z (o + 1) r) (⟨σ.soft, σ.kept.set (z - conv).toNat (σ.kept.getD (z - conv).toNat 0 + 1), true, (z, o, p), σ.L⟩, k, updM f (z, o) (some (pgv p))) := by
        show stl (crs conv keep) (run z (o + 1) r) ((crs conv keep σ (z, o, p)).2, if (crs conv keep σ (z, o, p)).1 = 0 then _ else k, if (crs conv keep σ (z, o, p)).1 = 1 then _ else f) = _
        rw [e]
        rfl
      obtain ⟨m, h1, h2, h3, h4, h5, h6, h7⟩ := crash_run hz r (o + 1) (⟨σ.soft, σ.kept.set (z - conv).toNat (σ.kept.getD (z - conv).toNat 0 + 1), true, (z, o, p), σ.L⟩, k, updM f (z, o) (some (pgv p))) (by omega) (by simpa using hl) hL
      rw [e2]
      refine ⟨m + 1, by simp; omega, ?_, h3, fun h => h4 (by simp at h; omega), fun h _ => ?_, fun h => absurd h (by simp), h7.trans (hlast _)⟩
      · rw [h2]
        by_cases hm : m = r.length
        · rw [if_pos hm, if_pos (by simp [hm])]
        · rw [if_neg hm, if_neg (by simp [hm])]
          show cutL σ.L z (o + 1 + m) = cutL σ.L z (o + ((m + 1 : Nat) : Int))
          rw [show o + 1 + (m : Int) = o + ((m + 1 : Nat) : Int) by push_cast; omega]
      · by_cases hr : r = []
        · exact h6 hr
        · exact h5 (by simp at h; omega) hr
end
end Dev
end Go.Proofs.Ythgjlofebicpiaa
namespace Go.Proofs.Ythgjlofebicpiaa
open Go.RowKit Geom Zone Dev
set_option linter.unusedVariables false

namespace Dev
theorem newest_run (z i o : Int) : ∀ (n : Nat) (ps : List (List Int)), ps.length = n → newest (run z o ps) (z, i) = if o ≤ i ∧ i < o + n then some (i - o).toNat else none
  | 0, ps, h => by
    obtain rfl := List.length_eq_zero_iff.1 h
    rw [if_neg (by rintro ⟨h1, h2⟩; simp at h2; omega)]
    rfl
  | n + 1, ps, h => by
    rcases List.eq_nil_or_concat ps with rfl | ⟨l, p, rfl⟩
    · simp at h
    · have hl : l.length = n := by simpa using h
      rw [List.concat_eq_append, run_snoc, newest_snoc, newest_run z i o n l hl, run_length, hl]
      by_cases e : i = o + (n : Int)
      · subst e
        rw [if_pos (show ((z, o + (n : Int)) : Pl) = Wr.pl (z, o + (n : Int), p) from rfl), if_pos ⟨by omega, by push_cast; omega⟩]
        congr 1
        omega
      · have e2 : ¬ ((z, i) : Pl) = Wr.pl (z, o + (n : Int), p) := by
          intro e3
          exact e (congrArg Prod.snd e3)
        rw [if_neg e2]
        by_cases h3 : o ≤ i ∧ i < o + n
        · rw [if_pos h3, if_pos ⟨h3.1, by push_cast; omega⟩]
        · rw [if_neg h3, if_neg (by push_cast; omega)]
theorem run_get (z : Int) : ∀ (ps : List (List Int)) (o : Int) (k : Nat), (run z o ps)[k]? = (ps[k]?).map fun p => (z, o + k, p)
  | [], o, k => by simp [run]
  | p :: r, o, 0 => by simp [run]
  | p :: r, o, k + 1 => by
    show (run z (o + 1) r)[k]? = _
    rw [run_get z r (o + 1) k, List.getElem?_cons_succ, show o + 1 + (k : Int) = o + ((k + 1 : Nat) : Int) by push_cast; omega]
theorem run_last (z : Int) (ps : List (List Int)) (o : Int) (d : Wr) (h : ps ≠ []) : ((run z o ps).getLast?).getD d = (z, o + (ps.length : Int) - 1, ps.getLast h) := by
  rcases List.eq_nil_or_concat ps with rfl | ⟨l, p, rfl⟩
  · exact absurd rfl h
  · have e := run_snoc z p l o
    simp only [List.concat_eq_append] at *
    rw [e]
    simp
    omega
/-- what is read of a run that is still cached, and of what lasts below it -/
theorem page_run {D : Dv} {z o i : Int} {ps : List (List Int)} (hc : D.cache = run z o ps) : pageD D (z, i) = if o ≤ i ∧ i < o + ps.length then ps.getD (i - o).toNat z64 else unpg (D.last (z, i)) := by
  have h := newest_run z i o ps.length ps rfl
  unfold pageD
  rw [hc, h]
  by_cases h3 : o ≤ i ∧ i < o + ps.length
  · rw [if_pos h3, if_pos h3]
    have hk : (i - o).toNat < ps.length := by omega
    have := run_get z ps o (i - o).toNat
    rw [List.getElem?_eq_getElem hk] at this
    simp [List.getD_eq_getElem?_getD, this, hk]
  · rw [if_neg h3, if_neg h3]
theorem zat_map {L : List Z} {z : Int} : (zat (L.map pow) z).2 = (zat L z).2 := by
  unfold zat
  rw [List.getD_eq_getElem?_getD, List.getD_eq_getElem?_getD, List.getElem?_map]
  cases L[z.toNat]? with
  | none => rfl
  | some x => exact pow_point x
/-- a sector of a sequential zone below the pointer is read -/
theorem read_ok {D : Dv} (h : DvOk D) (hd : D.down = false) {z i : Int} (h0 : D.conv ≤ z) (h1 : z < D.conv + D.seq) (hi : 0 ≤ i) (hp : i < (zat D.L z).2) : readD D (z, i) = (pageD D (z, i), 0, D) := by
  have hc := h.ok.1
  have hz := zat_get h.fit.1 (by omega) h1
  have hpt := fit_point h.fit h.ok.2.2.2.1 hz
  have hin : inB D.conv D.soft D.seq D.size z i = true := by
    unfold inB sectors
    rw [if_neg (by omega), if_neg (by omega)]
    exact decide_eq_true ⟨hi, by omega⟩
  have e : readE D.conv D.soft D.seq D.size D.L z i = 0 := by
    unfold readE
    rw [if_pos hin, if_neg (by omega)]
  unfold readD
  rw [if_neg (by simp [hd]), if_neg (by simp [e])]
/-- behind a crash of what was flushed, and of writes in one zone: where the pointer is, and what is read below it -/
theorem dev_lasts {D : Dv} {keep : List Int} {soft0 tear z was : Int} {ps : List (List Int)} (h : DvOk D) (hd : D.down = false) (h0 : D.conv ≤ z) (h1 : z < D.conv + D.seq) (hw : 0 ≤ was) (hc : D.cache = run z was ps) (hp : (zat D.L z).2 = was + ps.length) :
    was ≤ (zat (crashD D keep soft0 tear).L z).2 ∧ (zat (crashD D keep soft0 tear).L z).2 ≤ was + ps.length ∧ (crashD D keep soft0 tear).cache = [] ∧
      ∀ i, 0 ≤ i → i < (zat (crashD D keep soft0 tear).L z).2 → (i ≠ (zat (crashD D keep soft0 tear).L z).2 - 1 ∨ i < was ∨ tear ≤ 0) → pageD (crashD D keep soft0 tear) (z, i) = pageD D (z, i) := by
  have hcv := h.ok.1
  have hlen := h.fit.1
  have hns := h.ns
  have hzl : z.toNat < D.L.length := by omega
  obtain ⟨m, m1, m2, m3, m4, m5, m6, m7⟩ := crash_run (conv := D.conv) (z := z) (keep := keep) h0 ps was (⟨soft0, List.replicate D.n 0, true, (0, 0, z64), D.L⟩, [], D.last) hw (by simp; omega) hzl
  have hcs : crashS D keep soft0 = stl (crs D.conv keep) (run z was ps) (⟨soft0, List.replicate D.n 0, true, (0, 0, z64), D.L⟩, [], D.last) := by
    unfold crashS
    rw [hc]
  rw [← hcs] at m2 m3 m4 m5 m6 m7
  have hcache : (crashS D keep soft0).2.1 = [] := crs_cache keep D.cache _
  have hz4 : ¬ (zat D.L z).1 = 4 := by
    have := h.fit.2.2 z.toNat hzl
    have : fitZ D.conv D.size z.toNat (zat D.L z) := this
    unfold fitZ at this
    omega
  -- where the pointer is ahead of a torn sector
  have hpt : (zat ((crashS D keep soft0).1.L.map pow) z).2 = was + m := by
    rw [zat_map, m2]
    by_cases hm : m = ps.length
    · rw [if_pos hm, hm]
      exact hp
    · rw [if_neg hm]
      show (zat (cutL D.L z (was + m)) z).2 = _
      unfold cutL
      rw [if_neg (by omega)]
      split
      · rw [zat_set _ hzl]
        show (0 : Int) = _
        omega
      · rw [zat_set _ hzl]
  have hview : ∀ i, 0 ≤ i → i < was + m → unpg ((crashS D keep soft0).2.2 (z, i)) = pageD D (z, i) := by
    intro i hi hi2
    rw [page_run hc, m3, updR_run]
    have hlt : (ps.take m).length = m := by simp; omega
    rw [hlt]
    by_cases hiw : was ≤ i
    · rw [if_pos ⟨rfl, hiw, hi2⟩, if_pos ⟨hiw, by omega⟩]
      have hk : (i - was).toNat < ps.length := by omega
      rw [show ((z, i) : Pl).2 = i from rfl, List.getElem?_take_of_lt (by omega), List.getElem?_eq_getElem hk]
      show unpg (some (pgv _)) = _
      rw [unpg_some, List.getD_eq_getElem?_getD, List.getElem?_eq_getElem hk]
      rfl
    · rw [if_neg (fun e => hiw e.2.1), if_neg (fun e => hiw e.1)]
  have hpg : ∀ a, pageD (crashD D keep soft0 tear) a = unpg ((crashD D keep soft0 tear).last a) := by
    intro a
    unfold pageD
    rw [show (crashD D keep soft0 tear).cache = [] from hcache]
    rfl
  by_cases ht : (crashS D keep soft0).1.left = false ∧ 0 < tear ∧ (writeL D.conv D.soft D.seq D.size D.opn ((crashS D keep soft0).1.L.map pow) (crashS D keep soft0).1.last.1 (crashS D keep soft0).1.last.2.1).2 = 0
  · obtain ⟨t1, t2, t3⟩ := ht
    have hne : ps ≠ [] := by
      intro e
      rw [m6 e] at t1
      cases t1
    have hlast : (crashS D keep soft0).1.last = (z, was + (ps.length : Int) - 1, ps.getLast hne) := m7.trans (run_last z ps was _ hne)
    have hcd : (crashD D keep soft0 tear).L = (writeL D.conv D.soft D.seq D.size D.opn ((crashS D keep soft0).1.L.map pow) z (was + (ps.length : Int) - 1)).1.map pow ∧
        ∀ a, a ≠ (z, was + (ps.length : Int) - 1) → (crashD D keep soft0 tear).last a = (crashS D keep soft0).2.2 a := by
      have e : crashD D keep soft0 tear = crashD D keep soft0 tear := rfl
      rw [crashD_eq D keep soft0 tear (crashS D keep soft0).1 (crashS D keep soft0).2.1 (crashS D keep soft0).2.2 rfl]
      dsimp only
      rw [if_pos ⟨t1, t2⟩]
      unfold tearL
      rw [if_pos t3, hlast]
      refine ⟨rfl, fun a ha => ?_⟩
      show updM _ (z, was + (ps.length : Int) - 1) _ a = _
      unfold updM
      rw [if_neg ha]
    rw [hlast] at t3
    have hL2 : ((crashS D keep soft0).1.L.map pow).length = D.L.length := by
      rw [m2]
      split
      · simp
      · unfold cutL
        split
        · simp
        · split <;> simp
    have hzl2 : z.toNat < ((crashS D keep soft0).1.L.map pow).length := by omega
    -- the torn sector is the next one
    have hnx : was + (ps.length : Int) - 1 = was + m ∧ (zat (writeL D.conv D.soft D.seq D.size D.opn ((crashS D keep soft0).1.L.map pow) z (was + (ps.length : Int) - 1)).1 z).2 = was + m + 1 := by
      have hz42 : ¬ (zat ((crashS D keep soft0).1.L.map pow) z).1 = 4 := by
        have e2 : Fit D.conv D.seq D.size D.opn (crashS D keep soft0).1.L := crs_fit h.ok.2.2.2.1 keep D.cache _ (fun c hc => by obtain ⟨p0, p1, p2, _⟩ := h.place c hc; exact ⟨p0, by omega, p2⟩) h.fit
        have := (fit_pow h.ok.2.2.2.1 e2).2.2 z.toNat hzl2
        have : fitZ D.conv D.size z.toNat (zat ((crashS D keep soft0).1.L.map pow) z) := this
        unfold fitZ at this
        omega
      generalize hLL : (crashS D keep soft0).1.L.map pow = LL at t3 hpt hzl2 hz42 ⊢
      unfold writeL at t3 ⊢
      split at t3
      · rename_i hin
        rw [if_pos hin]
        unfold turnL at t3 ⊢
        rw [if_pos (in_has hin)] at t3 ⊢
        dsimp only at t3 ⊢
        rw [zat_set _ hzl2]
        unfold writeZ at t3 ⊢
        rw [if_neg hz42] at t3 ⊢
        split at t3
        · cases t3
        split at t3
        · cases t3
        split at t3
        · rename_i g1 g2 g3
          rw [if_neg g1, if_neg g2, if_pos g3]
          exact ⟨by omega, by show (zat LL z).2 + 1 = _; omega⟩
        · cases t3
      · cases t3
    have hnow : (zat (crashD D keep soft0 tear).L z).2 = was + m + 1 := by rw [hcd.1, zat_map]; exact hnx.2
    refine ⟨by omega, by omega, hcache, fun i hi hi2 hi3 => ?_⟩
    have hi4 : i < was + m := by omega
    rw [hpg, hcd.2 _ (fun e => by have := congrArg Prod.snd e; simp at this; omega)]
    exact hview i hi hi4
  · have hcd : (crashD D keep soft0 tear).L = (crashS D keep soft0).1.L.map pow ∧ (crashD D keep soft0 tear).last = (crashS D keep soft0).2.2 := by
      rw [crashD_eq D keep soft0 tear (crashS D keep soft0).1 (crashS D keep soft0).2.1 (crashS D keep soft0).2.2 rfl]
      dsimp only
      by_cases hl : (crashS D keep soft0).1.left = false ∧ 0 < tear
      · rw [if_pos hl]
        unfold tearL
        rw [if_neg (fun e => ht ⟨hl.1, hl.2, e⟩)]
        exact ⟨rfl, rfl⟩
      · rw [if_neg hl]
        exact ⟨rfl, rfl⟩
    rw [hcd.1, hpt]
    refine ⟨by omega, by omega, hcache, fun i hi hi2 _ => ?_⟩
    rw [hpg, hcd.2]
    exact hview i hi hi2
/-- writes in one zone behind a flush -/
structure WrI (conv seq : Int) (D : Dv) (z was : Int) (ps : List (List Int)) : Prop where
  down : D.down = false
  armed : D.armed = 0
  cv : D.conv = conv
  sq : D.seq = seq
  cache : D.cache = run z was ps
  point : (zat D.L z).2 = was + ps.length
theorem wri_write {conv seq : Int} {D : Dv} {z was : Int} {ps : List (List Int)} {p : List Int} (h : WrI conv seq D z was ps) (hO : DvOk D) (h0 : conv ≤ z) (h1 : z < conv + seq) (he : (writeD D (z, was + ps.length, p)).1 = 0) :
    WrI conv seq (writeD D (z, was + ps.length, p)).2 z was (ps ++ [p]) := by
  obtain ⟨g1, g2, rfl, rfl, g5, g6⟩ := h
  have hcv := hO.ok.1
  have hlen := hO.fit.1
  have hzl : z.toNat < D.L.length := by omega
  have hz4 : ¬ (zat D.L z).1 = 4 := by
    have := hO.fit.2.2 z.toNat hzl
    have : fitZ D.conv D.size z.toNat (zat D.L z) := this
    unfold fitZ at this
    omega
  unfold writeD at he ⊢
  rw [if_neg (by simp [g1])] at he ⊢
  by_cases hw : (writeL D.conv D.soft D.seq D.size D.opn D.L z (was + ps.length)).2 ≠ 0
  · rw [if_pos hw] at he
    exact absurd he hw
  · rw [if_neg hw]
    have hw := Classical.not_not.1 hw
    have hpt : (zat (writeL D.conv D.soft D.seq D.size D.opn D.L z (was + ps.length)).1 z).2 = was + ps.length + 1 := by
      unfold writeL at hw ⊢
      split at hw
      · rename_i hin
        rw [if_pos hin]
        unfold turnL at hw ⊢
        rw [if_pos (in_has hin)] at hw ⊢
        dsimp only at hw ⊢
        rw [zat_set _ hzl]
        unfold writeZ at hw ⊢
        rw [if_neg hz4] at hw ⊢
        split at hw
        · cases hw
        split at hw
        · cases hw
        split at hw
        · rename_i q1 q2 q3
          rw [if_neg q1, if_neg q2, if_pos q3]
          show (zat D.L z).2 + 1 = _
          omega
        · cases hw
      · cases hw
    unfold tick
    rw [if_neg (by show ¬ 0 < D.armed; omega)]
    exact ⟨g1, g2, rfl, rfl, by show D.cache ++ _ = _; rw [g5, run_snoc], by show (zat (writeL D.conv D.soft D.seq D.size D.opn D.L z (was + ps.length)).1 z).2 = _; rw [hpt]; simp; omega⟩
theorem wri_stop {conv seq : Int} {D : Dv} {z was : Int} {ps : List (List Int)} {c : Wr} (h : WrI conv seq D z was ps) (he : (writeD D c).1 ≠ 0) : WrI conv seq (writeD D c).2 z was ps := by
  obtain ⟨g1, g2, g3, g4, g5, g6⟩ := h
  unfold writeD at he ⊢
  rw [if_neg (by simp [g1])] at he ⊢
  split
  · exact ⟨g1, g2, g3, g4, g5, g6⟩
  · rename_i hw
    rw [if_neg hw] at he
    exact absurd rfl he
theorem flush_down {D : Dv} (h : D.down = true) (n : Int) : (flushD (armD D n)) = (2, D) := by
  rw [show armD D n = D from if_pos h]
  exact if_pos h
/-- behind Arm(-1) and Flush, where the power is not gone -/
theorem flush_up {D : Dv} (h : D.down = false) (z : Int) : (flushD (armD D (-1))).1 = 0 ∧ WrI D.conv D.seq (flushD (armD D (-1))).2 z (zat D.L z).2 [] := by
  have e : armD D (-1) = { D with armed := 0, down := false } := if_neg (by simp [h])
  rw [e]
  have e2 : flushD { D with armed := 0, down := false } = (0, tick (sortD (fun _ => 1) { D with armed := 0, down := false })) := if_neg (by simp)
  rw [e2]
  have hc : ∀ (l : List Wr) (s : Unit × List Wr × (Pl → Option Value)), (stl (fun (_ : Unit) c => ((1 : Int), ())) l s).2.1 = s.2.1 := by
    intro l
    induction l with
    | nil => intro s; rfl
    | cons c r ih => intro s; obtain ⟨σ, k, f⟩ := s; exact ih _
  unfold tick
  rw [if_neg (by show ¬ (0 : Int) < 0; decide)]
  exact ⟨rfl, rfl, rfl, rfl, rfl, hc D.cache _, by show (zat D.L z).2 = (zat D.L z).2 + ((0 : Nat) : Int); simp⟩
end Dev
end Go.Proofs.Ythgjlofebicpiaa
namespace Go.Proofs.Ythgjlofebicpiaa
open Go.RowKit Geom Zone Dev
set_option linter.unusedVariables false

namespace Dev
def littleB (conv soft seq size opn : Int) : Bool := okB conv soft seq size opn && decide (conv + seq ≤ 14) && decide (size ≤ 24)
end Dev
namespace Dev
/-- a page of one byte -/
def onepg (x : Int) : List Int := (z64.set 0 x).set 63 x
end Dev
theorem onepg_length (x : Int) : (onepg x).length = 64 := by simp [onepg, z64]
theorem page_boxes (x : Int) (w W : World) (hW : W = (w.alloc (.cells (bs z64).toArray 62)).alloc (.cells (bs (onepg x)).toArray 62)) :
    Box W w.heap.size 62 (bs z64) ∧ Box W (w.heap.size + 1) 62 (bs (onepg x)) ∧ Below w.heap.size w W := by
  subst hW
  refine ⟨(Box.new w _ _).same (Below.heap_alloc _ _ _ (by simp)), ?_, ((Below.refl _ _).alloc (Nat.le_refl _) _).alloc (by simp) _⟩
  have := Box.new (w.alloc (.cells (bs z64).toArray 62)) 62 (bs (onepg x))
  rwa [show (w.alloc (.cells (bs z64).toArray 62)).heap.size = w.heap.size + 1 by simp] at this
end Go.Proofs.Ythgjlofebicpiaa

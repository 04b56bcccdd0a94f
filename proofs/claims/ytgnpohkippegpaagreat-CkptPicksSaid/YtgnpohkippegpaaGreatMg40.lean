/-
  CkX CkY CkZ
-/
import Derived.Test.YtgnpohkippegpaaGreatMg39
import Derived.Test.YtgnpohkippegpaaGreatMg15
/-
  Checkpoints on a device: plain mathematics: a checkpoint that is written stands in its region, and the other region stays; what is picked.
-/
namespace Go.Proofs.YtgnpohkippegpaaGreat
open Go.RowKit Geom Zone Dev Ckp Word
set_option linter.unusedVariables false

namespace Dev
theorem updR_val : ∀ (l : List Wr) (f : Pl → Option Value) (a : Pl), updR f l a = f a ∨ ∃ c ∈ l, c.pl = a ∧ updR f l a = some (pgv c.2.2)
  | [], f, a => .inl rfl
  | c :: r, f, a => by
    have e : updR f (c :: r) = updR (updM f c.pl (some (pgv c.2.2))) r := rfl
    rw [e]
    rcases updR_val r (updM f c.pl (some (pgv c.2.2))) a with h | ⟨x, hx, h1, h2⟩
    · rw [h]
      by_cases h2 : c.pl = a
      · subst h2
        exact .inr ⟨c, List.mem_cons_self, rfl, by simp [updM]⟩
      · left
        unfold updM
        exact if_neg fun e => h2 e.symm
    · exact .inr ⟨x, List.mem_cons_of_mem _ hx, h1, h2⟩
theorem tick_up {D : Dv} (h : D.armed = 0) : tick D = D := by unfold tick; rw [if_neg (by omega)]
theorem od_upd {D : Dv} (h : Od D) : ∀ a p, updR D.last D.cache a = some (pgv p) → octets p := fun a p hp => by
  rcases updR_val D.cache D.last a with e | ⟨c, hc, _, e⟩
  · exact h.l a p (e ▸ hp)
  · rw [e] at hp
    injection hp with hp
    rw [← pgv_inj hp]
    exact h.c c hc
theorem od_tick {D : Dv} (h : Od D) : Od (tick D) := by
  obtain ⟨t1, t2, _⟩ := tick_same D
  exact ⟨by rw [t1]; exact h.c, by rw [t2]; exact h.l⟩
theorem od_flush {D : Dv} (h : Od D) : Od (flushD D).2 := by
  by_cases hd : D.down = true
  · have e : flushD D = (2, D) := if_pos hd
    rw [e]; exact h
  · obtain ⟨_, f2, f3, _⟩ := flush_conv (D := D) (by simpa using hd)
    exact ⟨by rw [f2]; simp, by rw [f3]; exact od_upd h⟩
theorem od_write {D : Dv} {c : Wr} (h : Od D) (hc : octets c.2.2) : Od (writeD D c).2 := by
  unfold writeD
  split
  · exact h
  · split
    · exact ⟨h.c, h.l⟩
    · exact od_tick ⟨fun x hx => by
        rcases List.mem_append.1 hx with h1 | h1
        · exact h.c x h1
        · rw [List.mem_singleton.1 h1]; exact hc, h.l⟩
theorem od_wrs : ∀ (cs : List Wr) (D : Dv), Od D → (∀ c ∈ cs, octets c.2.2) → Od (wrs D cs).2
  | [], D, h, _ => h
  | c :: r, D, h, hc => by
    have h1 := od_write h (hc c List.mem_cons_self)
    have e : wrs D (c :: r) = if (writeD D c).1 = 0 then wrs (writeD D c).2 r else writeD D c := rfl
    rw [e]
    split
    · exact od_wrs r _ h1 fun x hx => hc x (List.mem_cons_of_mem _ hx)
    · exact h1
theorem od_arm {D : Dv} (n : Int) (h : Od D) : Od (armD D n) := by unfold armD; split; exact h; exact ⟨h.c, h.l⟩
theorem od_new (conv soft seq size opn : Int) (n : Nat) : Od (newD conv soft seq size opn n) := ⟨fun x hx => (by cases hx), fun a p h => (by cases h)⟩
theorem od_crash {D : Dv} (keep : List Int) (soft0 tear : Int) (hO : DvOk D) (h : Od D) : Od (crashD D keep soft0 tear) := by
  have h1 : ∀ a p, (crashS D keep soft0).2.2 a = some (pgv p) → octets p := fun a p hp => by
    rcases crs_at D.conv keep D.cache (⟨soft0, List.replicate D.n 0, true, (0, 0, z64), D.L⟩, [], D.last) a with e | ⟨c, hc, _, e⟩
    · rw [show (crashS D keep soft0).2.2 a = D.last a from e] at hp
      exact h.l a p hp
    · have hp' : some (pgv c.2.2) = some (pgv p) := e.symm.trans hp
      injection hp' with hp'
      rw [← pgv_inj hp']
      exact h.c c hc
  have h2 : ∀ a, octets (unpg ((crashS D keep soft0).2.2 a)) := fun a => by
    cases hv : (crashS D keep soft0).2.2 a with
    | none => exact z64_oct
    | some v =>
      obtain ⟨p, _, rfl⟩ := stl_pages (crs D.conv keep) D.cache (⟨soft0, List.replicate D.n 0, true, (0, 0, z64), D.L⟩, [], D.last) hO.wok hO.pages a v hv
      rw [unpg_some]
      exact h1 a p hv
  have h3 : (crashS D keep soft0).1.left = false → octets (crashS D keep soft0).1.last.2.2 := fun hl =>
    h.c _ (crs_last D.conv keep D.cache D.cache (⟨soft0, List.replicate D.n 0, true, (0, 0, z64), D.L⟩, [], D.last) (fun c hc => hc) (fun hl => Bool.noConfusion (hl : true = false)) hl)
  have h4 := (crashD_cache D keep soft0 tear).1
  refine ⟨by rw [h4]; simp, fun a p hp => ?_⟩
  unfold crashD at hp
  simp only at hp
  split at hp
  · rename_i hc
    unfold tearL at hp
    split at hp
    · simp only [updM] at hp
      split at hp
      · injection hp with hp
        rw [← pgv_inj hp]
        intro z hz
        rcases List.mem_append.1 hz with hz | hz
        · exact h3 hc.1 z (List.mem_of_mem_take hz)
        · exact h2 _ z (List.mem_of_mem_drop hz)
      · exact h1 a p hp
    · exact h1 a p hp
  · exact h1 a p hp
theorem unpg_oct' {D : Dv} (ho : Od D) (hp : ∀ a v, D.last a = some v → ∃ p : List Int, p.length = 64 ∧ v = pgv p) (a : Pl) : octets (unpg (D.last a)) := by
  cases hv : D.last a with
  | none => exact z64_oct
  | some v =>
    obtain ⟨p, _, rfl⟩ := hp a v hv
    rw [unpg_some]
    exact ho.l a p hv
theorem crash_pages {D : Dv} (hO : DvOk D) (keep : List Int) (soft0 tear : Int) : ∀ a v, (crashD D keep soft0 tear).last a = some v → ∃ p : List Int, p.length = 64 ∧ v = pgv p := by
  have e3 : ∀ a v, (crashS D keep soft0).2.2 a = some v → ∃ p : List Int, p.length = 64 ∧ v = pgv p := stl_pages _ _ _ hO.wok hO.pages
  have e4 : (crashS D keep soft0).1.left = false → (crashS D keep soft0).1.last ∈ D.cache := crs_last D.conv keep D.cache D.cache _ (fun c hc => hc) (fun hl => Bool.noConfusion (hl : true = false))
  have e8 : (crashD D keep soft0 tear).last = Prod.snd (if (crashS D keep soft0).1.left = false ∧ 0 < tear then tearL D.conv D.soft D.seq D.size D.opn ((crashS D keep soft0).1.L.map pow) (crashS D keep soft0).2.2 (crashS D keep soft0).1.last (min tear 64).toNat (unpg ((crashS D keep soft0).2.2 (crashS D keep soft0).1.last.pl)) else ((crashS D keep soft0).1.L.map pow, (crashS D keep soft0).2.2)) := rfl
  rw [e8]
  split
  · rename_i hl
    exact tear_pages (by omega) (hO.wok _ (e4 hl.1)) (unpg_get (e3 _)).2 e3
  · exact e3
theorem wrs_ok : ∀ (cs : List Wr) {k : Nat} (D : Dv), DvN k D → (∀ c ∈ cs, c.2.2.length = 64) → k + cs.length ≤ 500 → DvN (k + cs.length) (wrs D cs).2
  | [], k, D, h, _, _ => h
  | c :: r, k, D, h, hc, hk => by
    have h1 := write_ok c (hc c List.mem_cons_self) h (by simp at hk; omega)
    have e : wrs D (c :: r) = if (writeD D c).1 = 0 then wrs (writeD D c).2 r else writeD D c := rfl
    rw [e]
    split
    · have h2 := wrs_ok r _ h1 (fun x hx => hc x (List.mem_cons_of_mem _ hx)) (by simp at hk ⊢ <;> omega)
      exact h2.mono (by simp <;> omega)
    · exact h1.mono (by simp <;> omega)
/-- writes of conventional sectors, of a device that doesn't go down -/
theorem wrs_up : ∀ (cs : List Wr) (D : Dv), Cv D → D.down = false → D.armed = 0 → (∀ c ∈ cs, 0 ≤ c.1 ∧ c.1 < D.conv ∧ 0 ≤ c.2.1 ∧ c.2.1 < D.soft) → wrs D cs = (0, { D with cache := D.cache ++ cs })
  | [], D, _, _, _, _ => by simp [wrs]
  | c :: r, D, hC, hd, ha, h => by
    obtain ⟨a0, a1, a2, a3⟩ := h c List.mem_cons_self
    have hw : writeD D c = (0, tick { D with cache := D.cache ++ [c] }) := conv_write (p := c.2.2) hC hd a0 a1 a2 a3
    rw [tick_up (by exact ha)] at hw
    have e : wrs D (c :: r) = wrs { D with cache := D.cache ++ [c] } r := by
      show (if (writeD D c).1 = 0 then wrs (writeD D c).2 r else writeD D c) = _
      rw [hw]
      rfl
    rw [e, wrs_up r { D with cache := D.cache ++ [c] } ⟨hC.seq, hC.at_⟩ hd ha (fun x hx => h x (List.mem_cons_of_mem _ hx))]
    simp
theorem flush_up0 {D : Dv} (hd : D.down = false) (ha : D.armed = 0) : (flushD D).1 = 0 ∧ (flushD D).2.cache = [] ∧ (flushD D).2.last = updR D.last D.cache ∧ (flushD D).2.L = D.L ∧ (flushD D).2.conv = D.conv ∧ (flushD D).2.soft = D.soft ∧ (flushD D).2.seq = D.seq ∧ (flushD D).2.down = false ∧ (flushD D).2.armed = 0 ∧ (flushD D).2.ill = D.ill := by
  obtain ⟨f1, f2, f3, f4, f5, f6, f7⟩ := flush_conv hd
  refine ⟨f1, f2, f3, f4, f5, f6, f7, ?_⟩
  have e : flushD D = (0, tick (sortD (fun _ => 1) D)) := if_neg (by simp [hd])
  rw [e, tick_up (show (sortD (fun _ => 1) D).armed = 0 from ha)]
  exact ⟨hd, ha, rfl⟩
/-- what is read of a device in which nothing is cached -/
theorem page_nil {D : Dv} (h : D.cache = []) (a : Pl) : pageD D a = unpg (D.last a) := by
  unfold pageD
  rw [h]
  rfl
end Dev
namespace Ckp
open Tbl
/-- a device at rest: nothing is cached, the power is there and stays -/
structure Sd (k P : Nat) (D : Dv) : Prop where
  n : DvN k D
  od : Od D
  up : D.down = false
  ar : D.armed = 0
  ca : D.cache = []
  so : (P : Int) + 3 ≤ D.soft
theorem plZ_ne {a b : Int} (ha : a = 0 ∨ a = 1) (hb : b = 0 ∨ b = 1) (h : a ≠ b) : plZ a ≠ plZ b := by
  rcases ha with rfl | rfl <;> rcases hb with rfl | rfl
  · exact absurd rfl h
  · decide
  · decide
  · exact absurd rfl h
theorem wrl_in {D : Dv} {m : Mast.Mst} {ys : List Int} {P : Nat} (h2 : 2 ≤ D.conv) (hs : (P : Int) + 3 ≤ D.soft) : ∀ c ∈ wrl m ys P, 0 ≤ c.1 ∧ c.1 < D.conv ∧ 0 ≤ c.2.1 ∧ c.2.1 < D.soft := fun c hc => by
  obtain ⟨i, hi⟩ := List.getElem?_of_mem hc
  have hl := wrl_length m ys P
  have hlt := (List.getElem?_eq_some_iff.1 hi).1
  unfold wrl at hi
  rw [Dev.run_get] at hi
  have hsl : i < (secs m ys P).length := by rw [secs_length]; omega
  rw [List.getElem?_eq_getElem hsl] at hi
  simp only [Option.map_some, Option.some.injEq] at hi
  subst hi
  have h3 := plZ_in (m.gen % 2)
  have h4 := plO_in (m.gen % 2)
  rw [secs_length] at hsl
  exact ⟨h3.1, by show plZ (m.gen % 2) < D.conv; omega, by show 0 ≤ plO (m.gen % 2) + (i : Int); omega, by show plO (m.gen % 2) + (i : Int) < D.soft; omega⟩
theorem secs_oct {m : Mast.Mst} {ys : List Int} {P : Nat} : Oct (secs m ys P) := by
  intro p hp
  unfold secs at hp
  rcases List.mem_cons.1 hp with rfl | hp
  · exact Mast.layL_octets _
  · rcases List.mem_append.1 hp with hp | hp
    · exact lvs_oct p hp
    · rw [List.mem_singleton.1 hp]
      exact Mast.layL_octets _
theorem wrl_page {m : Mast.Mst} {ys : List Int} {P : Nat} {c : Wr} (h : c ∈ wrl m ys P) : c.2.2 ∈ secs m ys P := by
  obtain ⟨i, hi⟩ := List.getElem?_of_mem h
  have hl := wrl_length m ys P
  have hlt := (List.getElem?_eq_some_iff.1 hi).1
  unfold wrl at hi
  rw [Dev.run_get] at hi
  have hsl : i < (secs m ys P).length := by rw [secs_length]; omega
  rw [List.getElem?_eq_getElem hsl] at hi
  simp only [Option.map_some, Option.some.injEq] at hi
  subst hi
  exact List.getElem_mem hsl
/-- what stands where behind writes of a region -/
theorem reg_wrl {D : Dv} {f : Pl → Option Value} {m : Mast.Mst} {ys : List Int} {P : Nat} (hc : D.cache = []) (hl : D.last = updR f (wrl m ys P)) (hg : 0 ≤ m.gen) :
    regD D (m.gen % 2) (P + 2) = secs m ys P := by
  apply List.ext_getElem?
  intro i
  by_cases hi : i < P + 2
  · rw [regD_at hi, page_nil hc, hl]
    unfold wrl
    rw [updR_run, if_pos ⟨rfl, by show plO (m.gen % 2) ≤ plO (m.gen % 2) + (i : Int); omega, by show plO (m.gen % 2) + (i : Int) < plO (m.gen % 2) + ((secs m ys P).length : Int); rw [secs_length]; omega⟩]
    have e : (plO (m.gen % 2) + (i : Int) - plO (m.gen % 2)).toNat = i := by omega
    rw [e]
    have hsl : i < (secs m ys P).length := by rw [secs_length]; exact hi
    rw [List.getElem?_eq_getElem hsl]
    simp only [Option.map_some, unpg_some]
  · rw [List.getElem?_eq_none (by rw [regD_length]; omega), List.getElem?_eq_none (by rw [secs_length]; omega)]
theorem reg_other {D D0 : Dv} {m : Mast.Mst} {ys : List Int} {P : Nat} {odd : Int} (hc : D.cache = []) (hc0 : D0.cache = []) (hl : D.last = updR D0.last (wrl m ys P)) (hg : 0 ≤ m.gen) (ho : odd = 0 ∨ odd = 1) (hne : odd ≠ m.gen % 2) :
    regD D odd (P + 2) = regD D0 odd (P + 2) := by
  apply List.map_congr_left
  intro i _
  rw [page_nil hc, page_nil hc0, hl]
  unfold wrl
  rw [updR_run, if_neg]
  rintro ⟨h1, _⟩
  exact plZ_ne ho (by omega) hne h1
/-- a checkpoint is written, on a device at rest -/
theorem ckW_full {D : Dv} {m : Mast.Mst} {ys : List Int} {k P : Nat} (h : Sd k P D) (hk : k + P + 4 ≤ 500) (hm : headB m (P : Int) = true) (hy : ys.length = 10 * P) :
    ∃ D', ckW D m ys P = (0, D') ∧ Sd (k + P + 4) P D' ∧ D'.ill = D.ill ∧ regD D' (m.gen % 2) (P + 2) = secs m ys P ∧ ∀ odd, odd = 0 ∨ odd = 1 → odd ≠ m.gen % 2 → regD D' odd (P + 2) = regD D odd (P + 2) := by
  obtain ⟨f1, f2, f3, f4, f5, f6, f7, f8, f9, f10⟩ := flush_up0 h.up h.ar
  have hC := cv_of h.n.ok
  have hC1 : Cv (flushD D).2 := ⟨by rw [f7]; exact hC.seq, by rw [f4, f5]; exact hC.at_⟩
  have hin := wrl_in (m := m) (ys := ys) h.n.ok.ok.1 h.so
  have hw := wrs_up (wrl m ys P) (flushD D).2 hC1 f8 f9 (by rw [f5, f6]; exact hin)
  have e : ckW D m ys P = flushD (wrs (flushD D).2 (wrl m ys P)).2 := by
    unfold ckW
    rw [if_pos hm, if_pos f1, if_pos (by rw [hw])]
  have hN1 := flush_ok h.n (by omega)
  have hN2 := wrs_ok (wrl m ys P) _ hN1 (fun c hc => secs_64 hy _ (wrl_page hc)) (by rw [wrl_length]; omega)
  have hN3 := flush_ok hN2 (by rw [wrl_length]; omega)
  have hO3 := od_flush (od_wrs (wrl m ys P) _ (od_flush h.od) fun c hc => secs_oct _ (wrl_page hc))
  rw [hw] at e hN3 hO3
  obtain ⟨g1, g2, g3, g4, g5, g6, g7, g8, g9, g10⟩ := flush_up0 (D := { (flushD D).2 with cache := (flushD D).2.cache ++ wrl m ys P }) f8 f9
  have hg0 : 0 ≤ m.gen := by
    have := (of_decide_eq_true (head_iff.1 hm).1 : Mast.Ok m).1.1
    omega
  have hl : (flushD { (flushD D).2 with cache := (flushD D).2.cache ++ wrl m ys P }).2.last = updR D.last (wrl m ys P) := by
    rw [g3]
    show updR (flushD D).2.last ((flushD D).2.cache ++ wrl m ys P) = _
    rw [f2, f3, h.ca, List.nil_append]
    rfl
  refine ⟨(flushD { (flushD D).2 with cache := (flushD D).2.cache ++ wrl m ys P }).2, ?_, ⟨hN3.mono (by rw [wrl_length]; omega), hO3, g8, g9, g2, by rw [g6]; show _ ≤ (flushD D).2.soft; rw [f6]; exact h.so⟩, ?_, reg_wrl g2 hl hg0, fun odd ho hne => reg_other g2 h.ca hl hg0 ho hne⟩
  · rw [e]
    exact Prod.ext g1 rfl
  · rw [g10]
    exact f10
end Ckp
end Go.Proofs.YtgnpohkippegpaaGreat

/-
  Checkpoints on a device: plain mathematics: what Pick finds; behind a crash at whichever command of a checkpoint.
-/
namespace Go.Proofs.YtgnpohkippegpaaGreat
open Go.RowKit Geom Zone Dev Ckp Word
set_option linter.unusedVariables false

namespace Ckp
open Tbl
/-- a table's places: those of the blocks that there are can be laid in leaves, there are no others -/
structure TabOk (n : Nat) (ys : List Int) : Prop where
  len : ys.length = 10 * Tbl.pages n
  nar : Nar ys
  out : ∀ i, n ≤ i → ys.getD i 0 = 0
theorem tabOk_of {n : Nat} {xs : List Int} (h : ∀ x ∈ xs, 0 ≤ x ∧ x < 4294967296) : TabOk n (tabY n xs) := by
  refine ⟨tabY_length n xs, fun y hy => ?_, fun i hi => ?_⟩
  · have := tabY_nar h y hy
    exact ⟨this.1, by omega⟩
  · unfold tabY
    have hl : (xs.take n).length ≤ n := by simp; omega
    rw [List.getD_eq_getElem?_getD, List.getElem?_append_right (by omega), List.getElem?_replicate]
    split <;> rfl
theorem tab_fits {n : Nat} {ys : List Int} (h : TabOk n ys) {gen : Int} {i : Nat} (hi : i < Tbl.pages n) : Fits n (lfOf ys gen i) := by
  refine ⟨by show (0 : Int) ≤ (i : Int); omega, by show (i : Int) < (Tbl.pages n : Int); omega, fun j hj => ?_⟩
  have e : (lfOf ys gen i).places.getD j 0 = ys.getD (i * 10 + j) 0 := leafOf_get hj
  rw [e]
  have e2 : (lfOf ys gen i).index.toNat = i := Int.toNat_natCast i
  rw [e2]
  have hlt : i * 10 + j < ys.length := by rw [h.len]; omega
  have hmem : ys.getD (i * 10 + j) 0 ∈ ys := by
    rw [List.getD_eq_getElem?_getD, List.getElem?_eq_getElem hlt]
    exact List.getElem_mem hlt
  refine ⟨(h.nar _ hmem).1, fun hp => ?_⟩
  rcases Nat.lt_or_ge (i * 10 + j) n with h1 | h1
  · exact h1
  · rw [h.out _ h1] at hp; omega
/-- what was written is found whole -/
theorem whole_new {n P : Nat} {m : Mast.Mst} {ys : List Int} (hP : Tbl.pages n = P) (hn : n ≤ 4096) (hm : headB m (P : Int) = true) (hi : Mast.In m) (ht : TabOk n ys) : whS n P (m.gen % 2) (secs m ys P) = some (m, ys) := by
  obtain ⟨h1, h2, h3⟩ := head_iff.1 hm
  have hok : Mast.Ok m := of_decide_eq_true h1
  rw [← whole_eq hP]
  subst hP
  exact whole_secs hok hi h2 h3 rfl ht.len fun i hi => ⟨lf_ok hok.1 ht.nar (pages_le hn) hi, tab_fits ht hi⟩
/-- without a foot nothing is whole -/
theorem whole_none {n P : Nat} {odd : Int} {L : List (List Int)} (hP : Tbl.pages n = P) (hl : L.length = P + 2) (h : L.getD (P + 1) [] = zp) : whS n P odd L = none := by
  rw [← whole_eq hP]
  subst hP
  exact whole_no_foot hl h
theorem whole_head {n P : Nat} {odd : Int} {L : List (List Int)} {m : Mast.Mst} {ys : List Int} (h : whS n P odd L = some (m, ys)) : m = (Mast.readS (L.getD 0 [])).1 ∧ headB m (P : Int) = true ∧ m.gen % 2 = odd := by
  unfold whS at h
  split at h
  · rename_i hc
    split at h
    · cases h
    · split at h
      · injection h with h
        injection h with h _
        subst h
        exact ⟨rfl, hc.2⟩
      · cases h
  · cases h
/-- the newer one of two regions is found -/
theorem pick_new {D : Dv} {n P : Nat} {m : Mast.Mst} {ys : List Int} {g : Int} (hg : g = 0 ∨ g = 1) (hm : 0 < m.gen) (h1 : whS n P g (regD D g (P + 2)) = some (m, ys))
    (h2 : whS n P (1 - g) (regD D (1 - g) (P + 2)) = none ∨ ∃ m' ys', whS n P (1 - g) (regD D (1 - g) (P + 2)) = some (m', ys') ∧ m'.gen < m.gen) : pickS D n P = some (m, ys) := by
  have e : pickS D n P = pkF (pkF none (whS n P 0 (regD D 0 (P + 2)))) (whS n P 1 (regD D 1 (P + 2))) := rfl
  rw [e]
  rcases hg with rfl | rfl
  · rw [h1, pkF_yes (by exact hm)]
    rcases h2 with h2 | ⟨m', ys', h2, hlt⟩
    · rw [show (1 : Int) - 0 = 1 by rfl] at h2
      rw [h2]; rfl
    · rw [show (1 : Int) - 0 = 1 by rfl] at h2
      rw [h2, pkF_no (by show ¬ m.gen < m'.gen; omega)]
  · rw [show (1 : Int) - 1 = 0 by rfl] at h2
    rw [h1]
    rcases h2 with h2 | ⟨m', ys', h2, hlt⟩
    · rw [h2]
      exact pkF_yes (by exact hm)
    · rw [h2]
      refine pkF_yes ?_
      unfold pkF
      split
      · exact hm
      · rename_i x hx
        injection hx with hx
        subst hx
        split
        · exact hlt
        · exact hm
theorem other_odd {g : Int} (h : g = 0 ∨ g = 1) : (1 - g = 0 ∨ 1 - g = 1) ∧ 1 - g ≠ g := by omega
/-- a region of a new device -/
theorem reg_new {D : Dv} {odd : Int} {N : Nat} (hc : D.cache = []) (hl : ∀ a : Pl, a.1 = plZ odd → D.last a = none) : ∀ i, i < N → (regD D odd N).getD i [] = zp := fun i hi => by
  rw [List.getD_eq_getElem?_getD, regD_at hi, page_nil hc, hl _ rfl]
  rfl
theorem wrl_z {m : Mast.Mst} {ys : List Int} {P : Nat} {c : Wr} (h : c ∈ wrl m ys P) : ∃ i, i < P + 2 ∧ c = (plZ (m.gen % 2), plO (m.gen % 2) + (i : Int), (secs m ys P).getD i []) := by
  obtain ⟨i, hi⟩ := List.getElem?_of_mem h
  have hlt := (List.getElem?_eq_some_iff.1 hi).1
  rw [wrl_length] at hlt
  have hsl : i < (secs m ys P).length := by rw [secs_length]; omega
  have e := wrl_at (List.getElem?_eq_getElem hsl)
  rw [hi] at e
  injection e with e
  refine ⟨i, hlt, e.trans ?_⟩
  rw [List.getD_eq_getElem?_getD, List.getElem?_eq_getElem hsl]
  rfl
theorem wrl_take {m : Mast.Mst} {ys : List Int} {P k : Nat} {c : Wr} (h : c ∈ (wrl m ys P).take k) : ∃ i, i < k ∧ i < P + 2 ∧ c = (plZ (m.gen % 2), plO (m.gen % 2) + (i : Int), (secs m ys P).getD i []) := by
  obtain ⟨i, hi⟩ := List.getElem?_of_mem h
  rw [List.getElem?_take] at hi
  split at hi
  · rename_i hik
    obtain ⟨j, hj, e⟩ := wrl_z (List.mem_of_getElem? hi)
    have hlt := (List.getElem?_eq_some_iff.1 hi).1
    rw [wrl_length] at hlt
    have hsl : i < (secs m ys P).length := by rw [secs_length]; omega
    have e2 := wrl_at (List.getElem?_eq_getElem hsl)
    rw [hi] at e2
    injection e2 with e2
    refine ⟨i, hik, hlt, e2.trans ?_⟩
    rw [List.getD_eq_getElem?_getD, List.getElem?_eq_getElem hsl]
    rfl
  · cases hi
theorem wrl_last {m : Mast.Mst} {ys : List Int} {P k : Nat} {c : Wr} (hk : k ≤ P + 2) (h : ((wrl m ys P).take k).getLast? = some c) : ∃ i, i + 1 = k ∧ c.pl = (plZ (m.gen % 2), plO (m.gen % 2) + (i : Int)) := by
  have hl := wrl_length m ys P
  rw [List.getLast?_eq_getElem?, List.length_take, hl, Nat.min_eq_left hk] at h
  have hk0 : 0 < k := by
    rcases Nat.eq_zero_or_pos k with rfl | h0
    · simp at h
    · exact h0
  refine ⟨k - 1, by omega, ?_⟩
  rw [List.getElem?_take, if_pos (by omega)] at h
  have hsl : k - 1 < (secs m ys P).length := by rw [secs_length]; omega
  have e2 := wrl_at (List.getElem?_eq_getElem hsl)
  rw [h] at e2
  injection e2 with e2
  rw [e2]
  rfl
theorem place_0 {odd : Int} (h : odd = 0 ∨ odd = 1) (i : Nat) : ((plZ odd, plO odd + (i : Int)) : Pl) ≠ (0, 0) := by
  intro e
  injection e with e1 e2
  rcases h with rfl | rfl
  · have : plZ 0 = 1 := rfl
    omega
  · have : plO 1 = 1 := rfl
    omega
/-- behind a crash in the midst of a checkpoint: the other region is as it was -/
theorem crash_other {D D5 : Dv} {m : Mast.Mst} {ys : List Int} {P k : Nat} {keep : List Int} {soft0 tear odd : Int} (hk : k ≤ P + 2) (h5 : D5.cache = (wrl m ys P).take k) (hl : D5.last = D.last) (hc : D.cache = []) (hg : 0 ≤ m.gen) (ho : odd = 0 ∨ odd = 1) (hne : odd ≠ m.gen % 2) :
    regD (crashD D5 keep soft0 tear) odd (P + 2) = regD D odd (P + 2) := by
  apply List.map_congr_left
  intro i _
  rw [page_nil (crashD_cache D5 keep soft0 tear).1, page_nil hc]
  have hz : plZ odd ≠ plZ (m.gen % 2) := plZ_ne ho (by omega) hne
  rcases crashD_at D5 keep soft0 tear (plZ odd, plO odd + (i : Int)) (fun c hcl => by
    rw [h5] at hcl
    obtain ⟨j, _, e⟩ := wrl_last hk hcl
    rw [e]
    intro e2
    injection e2 with e2
    exact hz e2.symm) (fun _ => place_0 ho i) with h | ⟨c, hcm, e, _⟩
  · rw [h, hl]
  · rw [h5] at hcm
    obtain ⟨j, _, _, rfl⟩ := wrl_take hcm
    injection e with e
    exact absurd e.symm hz
/-- behind a crash in the midst of a checkpoint: its own region isn't whole, or it is this one -/
theorem crash_own {D D5 : Dv} {m : Mast.Mst} {ys : List Int} {n P k : Nat} {keep : List Int} {soft0 tear : Int} (hP : Tbl.pages n = P) (hn : n ≤ 4096) (hm : headB m (P : Int) = true) (hi : Mast.In m) (ht : TabOk n ys) (hk : k ≤ P + 2) (hO : DvOk D5) (hOd : Od D5)
    (h5 : D5.cache = (wrl m ys P).take k) (hl : D5.last = D.last) (hz : ∀ i, i < P + 2 → (regD D (m.gen % 2) (P + 2)).getD i [] = zp) (hc : D.cache = []) :
    whS n P (m.gen % 2) (regD (crashD D5 keep soft0 tear) (m.gen % 2) (P + 2)) = none ∨ whS n P (m.gen % 2) (regD (crashD D5 keep soft0 tear) (m.gen % 2) (P + 2)) = some (m, ys) := by
  have hok : Mast.Ok m := of_decide_eq_true (head_iff.1 hm).1
  have hg1 := hok.1.1
  have ho : m.gen % 2 = 0 ∨ m.gen % 2 = 1 := by omega
  have hzl : ∀ i, i < P + 2 → unpg (D.last (plZ (m.gen % 2), plO (m.gen % 2) + (i : Int))) = zp := fun i hi => by
    have := hz i hi
    rw [List.getD_eq_getElem?_getD, regD_at hi, page_nil hc] at this
    exact this
  have hat : ∀ i, i < P + 2 → (regD (crashD D5 keep soft0 tear) (m.gen % 2) (P + 2)).getD i [] = unpg ((crashD D5 keep soft0 tear).last (plZ (m.gen % 2), plO (m.gen % 2) + (i : Int))) := fun i hi => by
    rw [List.getD_eq_getElem?_getD, regD_at hi, page_nil (crashD_cache D5 keep soft0 tear).1]
    rfl
  have hcase : ∀ i, i < P + 2 → i + 1 ≠ k → ((regD (crashD D5 keep soft0 tear) (m.gen % 2) (P + 2)).getD i [] = zp) ∨ (i < k ∧ (regD (crashD D5 keep soft0 tear) (m.gen % 2) (P + 2)).getD i [] = (secs m ys P).getD i []) := fun i hi hik => by
    rw [hat i hi]
    rcases crashD_at D5 keep soft0 tear (plZ (m.gen % 2), plO (m.gen % 2) + (i : Int)) (fun c hcl => by
      rw [h5] at hcl
      obtain ⟨j, hj, e⟩ := wrl_last hk hcl
      rw [e]
      intro e2
      injection e2 with _ e2
      omega) (fun _ => place_0 ho i) with h | ⟨c, hcm, e, h⟩
    · left
      rw [h, hl]
      exact hzl i hi
    · right
      rw [h5] at hcm
      obtain ⟨j, hj, _, rfl⟩ := wrl_take hcm
      injection e with _ e
      have hji : j = i := by
        have e' : plO (m.gen % 2) + (j : Int) = plO (m.gen % 2) + (i : Int) := e
        omega
      subst hji
      rw [h, unpg_some]
      exact ⟨hj, rfl⟩
  by_cases hkf : k = P + 2
  · cases hw : whS n P (m.gen % 2) (regD (crashD D5 keep soft0 tear) (m.gen % 2) (P + 2)) with
    | none => exact .inl rfl
    | some r =>
      right
      obtain ⟨m', ys'⟩ := r
      have hin' : Mast.In m' := by
        rw [(whole_head hw).1]
        refine Mast.read_in ?_
        rw [hat 0 (by omega)]
        exact unpg_oct' (od_crash keep soft0 tear hO hOd) (crash_pages hO keep soft0 tear) _
      rw [← whole_eq hP] at hw
      subst hP
      obtain ⟨e1, e2⟩ := whole_crash (regD_length _ _ _) hok hi hin' ht.len (fun i hi => lf_ok hok.1 ht.nar (pages_le hn) hi) (fun i hi => by
        rcases hcase i (by omega) (by omega) with h | h
        · exact .inr h
        · exact .inl h.2) hw
      rw [e1, e2]
  · left
    refine whole_none hP (regD_length _ _ _) ?_
    by_cases hkp : P + 1 + 1 = k
    · omega
    · rcases hcase (P + 1) (by omega) (by omega) with h | h
      · exact h
      · omega
end Ckp
end Go.Proofs.YtgnpohkippegpaaGreat

/-
  Checkpoints on a device: plain mathematics of the laws: a crash at whichever command; one checkpoint behind the other.
-/
namespace Go.Proofs.YtgnpohkippegpaaGreat
open Go.RowKit Geom Zone Dev Ckp Word
set_option linter.unusedVariables false

namespace Ckp
open Tbl
theorem ckW_keeps {D : Dv} {m : Mast.Mst} {ys : List Int} {k P : Nat} (h : DvN k D) (ho : Od D) (hk : k + P + 4 ≤ 500) (hy : ys.length = 10 * P) : DvN (k + P + 4) (ckW D m ys P).2 ∧ Od (ckW D m ys P).2 := by
  have n1 := flush_ok h (by omega)
  have n2 := wrs_ok (wrl m ys P) _ n1 (fun c hc => secs_64 hy _ (wrl_page hc)) (by rw [wrl_length]; omega)
  have n3 := flush_ok n2 (by rw [wrl_length]; omega)
  have o1 := od_flush ho
  have o2 := od_wrs (wrl m ys P) _ o1 fun c hc => secs_oct _ (wrl_page hc)
  have o3 := od_flush o2
  unfold ckW
  split
  · split
    · split
      · exact ⟨n3.mono (by rw [wrl_length]; omega), o3⟩
      · exact ⟨n2.mono (by rw [wrl_length]; omega), o2⟩
    · exact ⟨n1.mono (by omega), o1⟩
  · exact ⟨h.mono (by omega), ho⟩
theorem soft_crash (D : Dv) (keep : List Int) (s t : Int) : (crashD D keep s t).soft = D.soft ∧ (crashD D keep s t).conv = D.conv := ⟨rfl, rfl⟩
theorem arm_one {D : Dv} {a : Int} (hd : D.down = false) (ha : 1 ≤ a) : armD D a = { D with armed := a, down := false } := by
  have h1 : max a 0 = a := by omega
  have h2 : (a == 0) = false := by simp; omega
  unfold armD
  rw [if_neg (by simp [hd]), h1, h2]
/-- the checkpoint ahead stands, this one is cut off by a crash at whichever command -/
theorem lasts_core {D : Dv} {m1 m2 : Mast.Mst} {ys1 ys2 : List Int} {n k P : Nat} {a soft0 tear : Int} {keep : List Int} (h : Sd k P D) (hk : k + P + 8 ≤ 500) (hP : Tbl.pages n = P) (hn : n ≤ 4096)
    (hm1 : headB m1 (P : Int) = true) (hi1 : Mast.In m1) (ht1 : TabOk n ys1) (hm2 : headB m2 (P : Int) = true) (hi2 : Mast.In m2) (ht2 : TabOk n ys2) (hgen : m2.gen = m1.gen + 1)
    (h1 : regD D (m1.gen % 2) (P + 2) = secs m1 ys1 P) (hz : ∀ i, i < P + 2 → (regD D (m2.gen % 2) (P + 2)).getD i [] = zp) (ha : 1 ≤ a) (ha64 : W64 a) :
    Sd (k + P + 6) P (crashD (ckW (armD D a) m2 ys2 P).2 keep soft0 tear) ∧
    (pickS (crashD (ckW (armD D a) m2 ys2 P).2 keep soft0 tear) n P = some (m2, ys2) ∨ (pickS (crashD (ckW (armD D a) m2 ys2 P).2 keep soft0 tear) n P = some (m1, ys1) ∧ (ckW (armD D a) m2 ys2 P).1 ≠ 0)) := by
  have hy2 : ys2.length = 10 * P := by rw [← hP]; exact ht2.len
  have hN2 := armD_ok ha64 h.n
  have hO2 := od_arm a h.od
  obtain ⟨nW, oW⟩ := ckW_keeps (m := m2) hN2 hO2 (by omega) hy2
  have hg1 : 1 ≤ m1.gen := (of_decide_eq_true (head_iff.1 hm1).1 : Mast.Ok m1).1.1
  have ho1 : m1.gen % 2 = 0 ∨ m1.gen % 2 = 1 := by omega
  have ho2 : m2.gen % 2 = 0 ∨ m2.gen % 2 = 1 := by omega
  have hne : m1.gen % 2 ≠ m2.gen % 2 := by omega
  have e12 : 1 - m2.gen % 2 = m1.gen % 2 := by omega
  have e21 : 1 - m1.gen % 2 = m2.gen % 2 := by omega
  have w1 := whole_new hP hn hm1 hi1 ht1
  have w2 := whole_new hP hn hm2 hi2 ht2
  have hgeo : (ckW (armD D a) m2 ys2 P).2.soft = D.soft ∧ ((ckW (armD D a) m2 ys2 P).1 = 0 ∧ (ckW (armD D a) m2 ys2 P).2.cache = [] ∧ (ckW (armD D a) m2 ys2 P).2.last = updR D.last (wrl m2 ys2 P) ∨
      (ckW (armD D a) m2 ys2 P).1 ≠ 0 ∧ ∃ k, k ≤ P + 2 ∧ (ckW (armD D a) m2 ys2 P).2.cache = (wrl m2 ys2 P).take k ∧ (ckW (armD D a) m2 ys2 P).2.last = D.last) := by
    have earm := arm_one h.up ha
    have hd2 : (armD D a).down = false := by rw [earm]
    have hl2 : (armD D a).last = D.last := by rw [earm]
    have hc2 : (armD D a).cache = [] := by rw [earm]; exact h.ca
    have hs2 : (armD D a).soft = D.soft := by rw [earm]
    have hcv2 : (armD D a).conv = D.conv := by rw [earm]
    generalize armD D a = D2 at *
    obtain ⟨f1, f2, f3, f4, f5, f6, f7⟩ := flush_conv hd2
    have hC2 := cv_of hN2.ok
    have hC3 : Cv (flushD D2).2 := ⟨by rw [f7]; exact hC2.seq, by rw [f4, f5]; exact hC2.at_⟩
    have hin := wrl_in (m := m2) (ys := ys2) (P := P) (D := D2) hN2.ok.ok.1 (by rw [hs2]; exact h.so)
    have hls : (flushD D2).2.last = D.last := by rw [f3, hc2, hl2]; rfl
    obtain ⟨kk, k1, k2, k3, k4, k5, k6⟩ := wrs_conv (wrl m2 ys2 P) (flushD D2).2 hC3 (by rw [f5, f6]; exact hin)
    have hsw : (wrs (flushD D2).2 (wrl m2 ys2 P)).2.soft = D.soft := by
      have hg : ∀ (cs : List Wr) (X : Dv), (wrs X cs).2.soft = X.soft := fun cs => by
        induction cs with
        | nil => exact fun X => rfl
        | cons c r ih =>
          intro X
          have e : wrs X (c :: r) = if (writeD X c).1 = 0 then wrs (writeD X c).2 r else writeD X c := rfl
          have hw : (writeD X c).2.soft = X.soft := by
            unfold writeD
            split
            · rfl
            · split
              · rfl
              · exact (tick_same _).2.2.2.2.1
          rw [e]
          split
          · rw [ih, hw]
          · exact hw
      rw [hg, f6, hs2]
    rw [f2, List.nil_append] at k2
    rw [wrl_length] at k1 k5
    unfold ckW
    rw [if_pos hm2, if_pos f1]
    by_cases hz0 : (wrs (flushD D2).2 (wrl m2 ys2 P)).1 = 0
    · rw [if_pos hz0]
      have hkk := k5 hz0
      subst hkk
      have hfull : (wrs (flushD D2).2 (wrl m2 ys2 P)).2.cache = wrl m2 ys2 P := by
        rw [k2, List.take_of_length_le (by rw [wrl_length]; exact Nat.le_refl _)]
      generalize (wrs (flushD D2).2 (wrl m2 ys2 P)).2 = D5 at *
      cases hd5 : D5.down with
      | true =>
        have e : flushD D5 = (2, D5) := if_pos hd5
        rw [e]
        exact ⟨hsw, .inr ⟨(by show (2 : Int) ≠ 0; decide), P + 2, Nat.le_refl _, k2, k3.trans hls⟩⟩
      | false =>
        obtain ⟨g1, g2, g3, g4, g5, g6, g7⟩ := flush_conv hd5
        exact ⟨by rw [g6]; exact hsw, .inl ⟨g1, g2, by rw [g3, hfull, k3, hls]⟩⟩
    · rw [if_neg hz0]
      exact ⟨hsw, .inr ⟨hz0, kk, k1, k2, k3.trans hls⟩⟩
  generalize hr : ckW (armD D a) m2 ys2 P = r at *
  obtain ⟨e, D5⟩ := r
  simp only at hgeo nW oW ⊢
  obtain ⟨hs5, hcase⟩ := hgeo
  have hc6 := crashD_cache D5 keep soft0 tear
  refine ⟨⟨(crash_ok keep soft0 tear nW (by omega)).mono (by omega), od_crash keep soft0 tear nW.ok oW, hc6.2, rfl, hc6.1, by show _ ≤ D5.soft; rw [hs5]; exact h.so⟩, ?_⟩
  rcases hcase with ⟨he, hca, hla⟩ | ⟨he, kk, hkk, hca, hla⟩
  · left
    have hsame : ∀ odd, odd = 0 ∨ odd = 1 → regD (crashD D5 keep soft0 tear) odd (P + 2) = regD D5 odd (P + 2) := fun odd ho => by
      apply List.map_congr_left
      intro i _
      rw [page_nil hc6.1, page_nil hca]
      rcases crashD_at D5 keep soft0 tear (plZ odd, plO odd + (i : Int)) (fun c hcl => by rw [hca] at hcl; cases hcl) (fun _ => place_0 ho i) with h1 | ⟨c, hcm, _⟩
      · rw [h1]
      · rw [hca] at hcm; cases hcm
    refine pick_new ho2 (by omega) ?_ (.inr ⟨m1, ys1, ?_, by omega⟩)
    · rw [hsame _ ho2, reg_wrl hca hla (by omega)]
      exact w2
    · rw [e12, hsame _ ho1, reg_other hca h.ca hla (by omega) ho1 hne, h1]
      exact w1
  · have hoth : regD (crashD D5 keep soft0 tear) (m1.gen % 2) (P + 2) = secs m1 ys1 P := by
      rw [crash_other hkk hca hla h.ca (by omega) ho1 hne]
      exact h1
    rcases crash_own hP hn hm2 hi2 ht2 hkk nW.ok oW hca hla hz h.ca (keep := keep) (soft0 := soft0) (tear := tear) with hw | hw
    · right
      refine ⟨pick_new ho1 (by omega) (by rw [hoth]; exact w1) (.inl ?_), he⟩
      rw [e21]
      exact hw
    · left
      refine pick_new ho2 (by omega) hw (.inr ⟨m1, ys1, ?_, by omega⟩)
      rw [e12, hoth]
      exact w1
/-- what stands in the regions is older than i -/
def Older (D : Dv) (n P : Nat) (i : Int) : Prop := ∀ odd, odd = 0 ∨ odd = 1 → whS n P odd (regD D odd (P + 2)) = none ∨ ∃ m ys, whS n P odd (regD D odd (P + 2)) = some (m, ys) ∧ m.gen ≤ i
theorem older_new {conv soft seq size opn : Int} {k n P : Nat} (hP : Tbl.pages n = P) : Older (newD conv soft seq size opn k) n P 0 := fun odd _ => .inl (whole_none hP (regD_length _ _ _) (reg_new rfl (fun _ _ => rfl) _ (by omega)))
/-- a newer checkpoint is written: it is picked -/
theorem turn_core {D : Dv} {m : Mast.Mst} {ys : List Int} {n k P : Nat} {i : Int} (h : Sd k P D) (hk : k + P + 4 ≤ 500) (hP : Tbl.pages n = P) (hn : n ≤ 4096) (hm : headB m (P : Int) = true) (hi : Mast.In m) (ht : TabOk n ys) (hold : Older D n P i) (hg : i < m.gen) :
    ∃ D', ckW D m ys P = (0, D') ∧ Sd (k + P + 4) P D' ∧ D'.ill = D.ill ∧ pickS D' n P = some (m, ys) ∧ Older D' n P m.gen ∧ regD D' (m.gen % 2) (P + 2) = secs m ys P ∧ (∀ odd, odd = 0 ∨ odd = 1 → odd ≠ m.gen % 2 → regD D' odd (P + 2) = regD D odd (P + 2)) := by
  have hg1 : 1 ≤ m.gen := (of_decide_eq_true (head_iff.1 hm).1 : Mast.Ok m).1.1
  have ho : m.gen % 2 = 0 ∨ m.gen % 2 = 1 := by omega
  obtain ⟨D', e1, e2, e3, e4, e5⟩ := ckW_full h hk hm (by rw [← hP]; exact ht.len)
  have w := whole_new hP hn hm hi ht
  refine ⟨D', e1, e2, e3, ?_, ?_, e4, e5⟩
  · refine pick_new ho (by omega) (by rw [e4]; exact w) ?_
    have h2 := other_odd ho
    rw [e5 _ h2.1 h2.2]
    rcases hold _ h2.1 with h3 | ⟨m', ys', h3, h4⟩
    · exact .inl h3
    · exact .inr ⟨m', ys', h3, by omega⟩
  · intro odd hodd
    by_cases he : odd = m.gen % 2
    · subst he
      right
      rw [e4]
      exact ⟨m, ys, w, Int.le_refl _⟩
    · rw [e5 odd hodd he]
      rcases hold odd hodd with h3 | ⟨m', ys', h3, h4⟩
      · exact .inl h3
      · exact .inr ⟨m', ys', h3, by omega⟩
end Ckp
end Go.Proofs.YtgnpohkippegpaaGreat

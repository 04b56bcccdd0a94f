/-
  CkD DevOd
-/
import Derived.Test.YthgjlofebicpiaaMg34
import Derived.Test.YthgjlofebicpiaaMg01
/-
  Devices: plain mathematics of a crash, of whatever zone: each place keeps what it had, or gets one of the pages that were cached for it; but for the place that was written last.
-/
namespace Go.Proofs.Ythgjlofebicpiaa
open Go.RowKit Zone Dev
set_option linter.unusedVariables false

namespace Dev
theorem crs_at (conv : Int) (keep : List Int) : ∀ (l : List Wr) (s : Cst × List Wr × (Pl → Option Value)) (a : Pl),
    (stl (crs conv keep) l s).2.2 a = s.2.2 a ∨ ∃ c ∈ l, c.pl = a ∧ (stl (crs conv keep) l s).2.2 a = some (pgv c.2.2)
  | [], s, a => .inl rfl
  | c :: l, (σ, k, f), a => by
    have e : stl (crs conv keep) (c :: l) (σ, k, f) = stl (crs conv keep) l ((crs conv keep σ c).2, if (crs conv keep σ c).1 = 0 then k ++ [c] else k, if (crs conv keep σ c).1 = 1 then updM f c.pl (some (pgv c.2.2)) else f) := rfl
    rw [e]
    rcases crs_at conv keep l _ a with h | ⟨x, hx, h1, h2⟩
    · rw [h]
      by_cases h1 : (crs conv keep σ c).1 = 1
      · simp only [if_pos h1]
        by_cases h2 : c.pl = a
        · subst h2
          exact .inr ⟨c, List.mem_cons_self, rfl, by simp [updM]⟩
        · left
          simp only [updM]
          rw [if_neg]
          first | exact fun e => h2 e.symm | exact h2
      · simp only [if_neg h1]
        exact .inl trivial
    · exact .inr ⟨x, List.mem_cons_of_mem _ hx, h1, h2⟩
/-- the last one that a crash goes over is the one that was written last -/
theorem crs_lastW (conv : Int) (keep : List Int) : ∀ (l : List Wr) (s : Cst × List Wr × (Pl → Option Value)) (c : Wr), l.getLast? = some c → (stl (crs conv keep) l s).1.last = c
  | [], s, c, h => by cases h
  | [x], (σ, k, f), c, h => by
    obtain rfl : x = c := by simpa using h
    show (crs conv keep σ x).2.last = x
    unfold crs
    split <;> rfl
  | x :: y :: l, (σ, k, f), c, h => by
    have e : stl (crs conv keep) (x :: y :: l) (σ, k, f) = stl (crs conv keep) (y :: l) ((crs conv keep σ x).2, if (crs conv keep σ x).1 = 0 then k ++ [x] else k, if (crs conv keep σ x).1 = 1 then updM f x.pl (some (pgv x.2.2)) else f) := rfl
    rw [e]
    exact crs_lastW conv keep (y :: l) _ c (by rw [List.getLast?_cons_cons] at h; exact h)
/-- behind a crash nothing is cached, and the power is there -/
theorem crashD_cache (D : Dv) (keep : List Int) (soft0 tear : Int) : (crashD D keep soft0 tear).cache = [] ∧ (crashD D keep soft0 tear).down = false := by
  have h := crs_cache (conv := D.conv) keep D.cache (⟨soft0, List.replicate D.n 0, true, (0, 0, z64), D.L⟩, [], D.last)
  exact ⟨h, rfl⟩
/-- what a crash leaves at a place -/
theorem crashD_at (D : Dv) (keep : List Int) (soft0 tear : Int) (a : Pl) (hne : ∀ c, D.cache.getLast? = some c → c.pl ≠ a) (hn : D.cache = [] → a ≠ (0, 0)) :
    (crashD D keep soft0 tear).last a = D.last a ∨ ∃ c ∈ D.cache, c.pl = a ∧ (crashD D keep soft0 tear).last a = some (pgv c.2.2) := by
  have h := crs_at D.conv keep D.cache (⟨soft0, List.replicate D.n 0, true, (0, 0, z64), D.L⟩, [], D.last) a
  have hl : (crashS D keep soft0).1.last.pl ≠ a := by
    unfold crashS
    cases hc : D.cache.getLast? with
    | none =>
      have hc' := List.getLast?_eq_none_iff.1 hc
      rw [hc']
      exact fun e => hn hc' e.symm
    | some c =>
      rw [crs_lastW D.conv keep D.cache _ c hc]
      exact hne c hc
  have e : (crashD D keep soft0 tear).last a = (crashS D keep soft0).2.2 a := by
    unfold crashD
    simp only
    split
    · unfold tearL
      split
      · simp only [updM]
        rw [if_neg]
        first | exact fun e => hl e.symm | exact hl
      · rfl
    · rfl
  rw [e]
  exact h
/-- the conventional zones are as they always are -/
structure Cv (D : Dv) : Prop where
  seq : 0 ≤ D.seq
  at_ : ∀ z, 0 ≤ z → z < D.conv → zat D.L z = (4, 0) ∧ z.toNat < D.L.length
theorem cv_of {D : Dv} (hO : DvOk D) : Cv D := by
  have h1 := hO.ok.1
  have h2 := hO.ok.2.1
  have hl := hO.fit.1
  refine ⟨by omega, fun z h0 hz => ?_⟩
  have hlt : z.toNat < D.L.length := by omega
  have hf := hO.fit.2.2 z.toNat hlt
  refine ⟨?_, hlt⟩
  unfold fitZ at hf
  rcases hf with ⟨_, h3, h4⟩ | ⟨h3, _⟩
  · exact Prod.ext h3 h4
  · omega
/-- a write of a conventional sector is cached -/
theorem conv_write {D : Dv} (hC : Cv D) (hd : D.down = false) {z o : Int} {p : List Int} (h0 : 0 ≤ z) (h1 : z < D.conv) (h2 : 0 ≤ o) (h3 : o < D.soft) :
    writeD D (z, o, p) = (0, tick { D with cache := D.cache ++ [(z, o, p)] }) := by
  obtain ⟨e1, e2⟩ := hC.at_ z h0 h1
  have hs := hC.seq
  have hin : inB D.conv D.soft D.seq D.size z o = true := by
    unfold inB sectors
    apply decide_eq_true
    refine ⟨h2, ?_⟩
    repeat' split
    all_goals omega
  have hw : writeL D.conv D.soft D.seq D.size D.opn D.L z o = (D.L, 0) := by
    unfold writeL
    rw [if_pos hin, turnL_eq _ _ _ _ _ _ (in_has hin), e1]
    have e3 : D.L.set z.toNat (4, 0) = D.L := by
      have e4 : D.L[z.toNat] = (4, 0) := by
        have := e1
        unfold zat at this
        rwa [List.getD_eq_getElem?_getD, List.getElem?_eq_getElem e2] at this
      rw [← e4, List.set_getElem_self]
    simp only [writeZ, if_true]
    rw [e3]
  unfold writeD
  rw [if_neg (by simp [hd])]
  simp only [hw]
  rfl
/-- writes, one behind the other, up to the first error -/
def wrs : Dv → List Wr → Int × Dv
  | D, [] => (0, D)
  | D, c :: r => if (writeD D c).1 = 0 then wrs (writeD D c).2 r else writeD D c
theorem tick_same (D : Dv) : (tick D).cache = D.cache ∧ (tick D).last = D.last ∧ (tick D).L = D.L ∧ (tick D).conv = D.conv ∧ (tick D).soft = D.soft ∧ (tick D).seq = D.seq := by
  unfold tick
  split <;> exact ⟨rfl, rfl, rfl, rfl, rfl, rfl⟩
/-- of writes of conventional sectors a first part is cached: all, if there is no error; else the power is gone -/
theorem wrs_conv : ∀ (cs : List Wr) (D : Dv), Cv D → (∀ c ∈ cs, 0 ≤ c.1 ∧ c.1 < D.conv ∧ 0 ≤ c.2.1 ∧ c.2.1 < D.soft) →
    ∃ k, k ≤ cs.length ∧ (wrs D cs).2.cache = D.cache ++ cs.take k ∧ (wrs D cs).2.last = D.last ∧ (wrs D cs).2.L = D.L ∧ ((wrs D cs).1 = 0 → k = cs.length) ∧ ((wrs D cs).1 ≠ 0 → (wrs D cs).1 = 2 ∧ (wrs D cs).2.down = true)
  | [], D, _, _ => ⟨0, Nat.le_refl _, by simp [wrs], rfl, rfl, fun _ => rfl, fun h => absurd rfl h⟩
  | c :: r, D, hC, h => by
    obtain ⟨a0, a1, a2, a3⟩ := h c List.mem_cons_self
    cases hd : D.down
    · have hw := conv_write (p := c.2.2) hC hd a0 a1 a2 a3
      have e : writeD D c = (0, tick { D with cache := D.cache ++ [c] }) := hw
      obtain ⟨t1, t2, t3, t4, t5, t6⟩ := tick_same { D with cache := D.cache ++ [c] }
      generalize tick { D with cache := D.cache ++ [c] } = D' at *
      have hC' : Cv D' := ⟨by rw [t6]; exact hC.seq, fun z h0 h1 => by rw [t3]; exact hC.at_ z h0 (by rw [t4] at h1; exact h1)⟩
      obtain ⟨k, k1, k2, k3, k4, k5, k6⟩ := wrs_conv r D' hC' (fun x hx => by rw [t4, t5]; exact h x (List.mem_cons_of_mem _ hx))
      have e2 : wrs D (c :: r) = wrs D' r := by
        show (if (writeD D c).1 = 0 then wrs (writeD D c).2 r else writeD D c) = _
        rw [e]
        rfl
      rw [e2]
      refine ⟨k + 1, by simpa using k1, ?_, k3.trans t2, k4.trans t3, fun hh => by rw [k5 hh]; rfl, k6⟩
      rw [k2, t1]
      simp
    · have e : writeD D c = (2, D) := if_pos hd
      have e2 : wrs D (c :: r) = (2, D) := by
        show (if (writeD D c).1 = 0 then wrs (writeD D c).2 r else writeD D c) = _
        rw [e]
        rfl
      rw [e2]
      exact ⟨0, Nat.zero_le _, by simp, rfl, rfl, fun hh => (by cases hh), fun _ => ⟨rfl, hd⟩⟩
theorem stl_one : ∀ (l : List Wr) (k : List Wr) (f : Pl → Option Value), stl (fun (_ : Unit) (c : Wr) => ((1 : Int), ())) l ((), k, f) = ((), k, updR f l)
  | [], k, f => rfl
  | c :: r, k, f => by
    have e : stl (fun (_ : Unit) (c : Wr) => ((1 : Int), ())) (c :: r) ((), k, f) = stl (fun (_ : Unit) (c : Wr) => ((1 : Int), ())) r ((), k, updM f c.pl (some (pgv c.2.2))) := rfl
    rw [e, stl_one r]
    rfl
/-- a flush: all that was cached stands where it was written -/
theorem flush_conv {D : Dv} (hd : D.down = false) : (flushD D).1 = 0 ∧ (flushD D).2.cache = [] ∧ (flushD D).2.last = updR D.last D.cache ∧ (flushD D).2.L = D.L ∧ (flushD D).2.conv = D.conv ∧ (flushD D).2.soft = D.soft ∧ (flushD D).2.seq = D.seq := by
  have e : flushD D = (0, tick (sortD (fun _ => 1) D)) := if_neg (by simp [hd])
  rw [e]
  obtain ⟨t1, t2, t3, t4, t5, t6⟩ := tick_same (sortD (fun _ => 1) D)
  have e2 := stl_one D.cache [] D.last
  refine ⟨rfl, t1.trans ?_, t2.trans ?_, t3, t4, t5, t6⟩
  · show (stl (fun (_ : Unit) (c : Wr) => ((1 : Int), ())) D.cache ((), [], D.last)).2.1 = []
    rw [e2]
  · show (stl (fun (_ : Unit) (c : Wr) => ((1 : Int), ())) D.cache ((), [], D.last)).2.2 = _
    rw [e2]
/-- a place that no write names stays as it was -/
theorem updR_out : ∀ (l : List Wr) (f : Pl → Option Value) (a : Pl), (∀ c ∈ l, c.pl ≠ a) → updR f l a = f a
  | [], f, a, _ => rfl
  | c :: r, f, a, h => by
    have e : updR f (c :: r) = updR (updM f c.pl (some (pgv c.2.2))) r := rfl
    rw [e, updR_out r _ a (fun x hx => h x (List.mem_cons_of_mem _ hx))]
    unfold updM
    exact if_neg fun e => h c List.mem_cons_self e.symm
end Dev
end Go.Proofs.Ythgjlofebicpiaa

/-
  Devices: all bytes on them are octets: plain mathematics.
-/
namespace Go.Proofs.Ythgjlofebicpiaa
open Go.RowKit Geom Zone Dev Word
set_option linter.unusedVariables false

namespace Dev
theorem page_len {D : Dv} (h : DvOk D) (a : Pl) : (pageD D a).length = 64 := by
  unfold pageD
  cases hn : newest D.cache a with
  | none => exact (unpg_get (h.pages a)).2
  | some i =>
    show (D.cache.getD i (0, 0, z64)).2.2.length = 64
    rw [List.getD_eq_getElem?_getD]
    cases hi : D.cache[i]? with
    | none => rfl
    | some c => exact h.wok c (List.mem_of_getElem? hi)
/-- all bytes on the device are octets -/
structure Od (D : Dv) : Prop where
  c : ∀ x ∈ D.cache, octets x.2.2
  l : ∀ a p, D.last a = some (pgv p) → octets p
theorem z64_oct : octets z64 := fun z hz => by
  rw [List.eq_of_mem_replicate hz]
  omega
theorem pgv_inj {p q : List Int} (h : pgv p = pgv q) : p = q := by
  unfold pgv at h
  injection h with h
  have h2 : bs p = bs q := by
    have := congrArg Array.toList h
    simpa using this
  exact bs_inj h2
theorem unpg_oct {D : Dv} (h : DvOk D) (ho : Od D) (a : Pl) : octets (unpg (D.last a)) := by
  cases hv : D.last a with
  | none => exact z64_oct
  | some v =>
    obtain ⟨p, _, rfl⟩ := h.pages a v hv
    rw [unpg_some]
    exact ho.l a p hv
theorem page_oct {D : Dv} (h : DvOk D) (ho : Od D) (a : Pl) : octets (pageD D a) := by
  unfold pageD
  cases hn : newest D.cache a with
  | none => exact unpg_oct h ho a
  | some i =>
    show octets (D.cache.getD i (0, 0, z64)).2.2
    rw [List.getD_eq_getElem?_getD]
    cases hi : D.cache[i]? with
    | none => exact z64_oct
    | some c => exact ho.c c (List.mem_of_getElem? hi)
theorem updR_val : ∀ (l : List Wr) (f : Pl → Option Value) (a : Pl), updR f l a = f a ∨ ∃ c ∈ l, c.pl = a ∧ updR f l a = some (pgv c.2.2)
  | [], f, a => .inl rfl
  | c :: r, f, a => by
    have e : updR f (c :: r) = updR (updM f c.pl (some (pgv c.2.2))) r := rfl
    rw [e]
    rcases updR_val r (updM f c.pl (some (pgv c.2.2))) a with h | ⟨x, hx, h1, h2⟩
    · rw [h]
      by_cases h2 : c.pl = a
      · subst h2
        exact .inr ⟨c, List.mem_cons_self, rfl, by simp [updM]⟩
      · left
        unfold updM
        exact if_neg fun e => h2 e.symm
    · exact .inr ⟨x, List.mem_cons_of_mem _ hx, h1, h2⟩
theorem tick_up {D : Dv} (h : D.armed = 0) : tick D = D := by unfold tick; rw [if_neg (by omega)]
theorem od_upd {D : Dv} (h : Od D) : ∀ a p, updR D.last D.cache a = some (pgv p) → octets p := fun a p hp => by
  rcases updR_val D.cache D.last a with e | ⟨c, hc, _, e⟩
  · exact h.l a p (e ▸ hp)
  · rw [e] at hp
    injection hp with hp
    rw [← pgv_inj hp]
    exact h.c c hc
theorem od_tick {D : Dv} (h : Od D) : Od (tick D) := by
  obtain ⟨t1, t2, _⟩ := tick_same D
  exact ⟨by rw [t1]; exact h.c, by rw [t2]; exact h.l⟩
theorem od_flush {D : Dv} (h : Od D) : Od (flushD D).2 := by
  by_cases hd : D.down = true
  · have e : flushD D = (2, D) := if_pos hd
    rw [e]; exact h
  · obtain ⟨_, f2, f3, _⟩ := flush_conv (D := D) (by simpa using hd)
    exact ⟨by rw [f2]; simp, by rw [f3]; exact od_upd h⟩
theorem od_write {D : Dv} {c : Wr} (h : Od D) (hc : octets c.2.2) : Od (writeD D c).2 := by
  unfold writeD
  split
  · exact h
  · split
    · exact ⟨h.c, h.l⟩
    · exact od_tick ⟨fun x hx => by
        rcases List.mem_append.1 hx with h1 | h1
        · exact h.c x h1
        · rw [List.mem_singleton.1 h1]; exact hc, h.l⟩
theorem od_wrs : ∀ (cs : List Wr) (D : Dv), Od D → (∀ c ∈ cs, octets c.2.2) → Od (wrs D cs).2
  | [], D, h, _ => h
  | c :: r, D, h, hc => by
    have h1 := od_write h (hc c List.mem_cons_self)
    have e : wrs D (c :: r) = if (writeD D c).1 = 0 then wrs (writeD D c).2 r else writeD D c := rfl
    rw [e]
    split
    · exact od_wrs r _ h1 fun x hx => hc x (List.mem_cons_of_mem _ hx)
    · exact h1
theorem od_arm {D : Dv} (n : Int) (h : Od D) : Od (armD D n) := by unfold armD; split; exact h; exact ⟨h.c, h.l⟩
theorem od_new (conv soft seq size opn : Int) (n : Nat) : Od (newD conv soft seq size opn n) := ⟨fun x hx => (by cases hx), fun a p h => (by cases h)⟩
theorem od_crash {D : Dv} (keep : List Int) (soft0 tear : Int) (hO : DvOk D) (h : Od D) : Od (crashD D keep soft0 tear) := by
  have h1 : ∀ a p, (crashS D keep soft0).2.2 a = some (pgv p) → octets p := fun a p hp => by
    rcases crs_at D.conv keep D.cache (⟨soft0, List.replicate D.n 0, true, (0, 0, z64), D.L⟩, [], D.last) a with e | ⟨c, hc, _, e⟩
    · rw [show (crashS D keep soft0).2.2 a = D.last a from e] at hp
      exact h.l a p hp
    · have hp' : some (pgv c.2.2) = some (pgv p) := e.symm.trans hp
      injection hp' with hp'
      rw [← pgv_inj hp']
      exact h.c c hc
  have h2 : ∀ a, octets (unpg ((crashS D keep soft0).2.2 a)) := fun a => by
    cases hv : (crashS D keep soft0).2.2 a with
    | none => exact z64_oct
    | some v =>
      obtain ⟨p, _, rfl⟩ := stl_pages (crs D.conv keep) D.cache (⟨soft0, List.replicate D.n 0, true, (0, 0, z64), D.L⟩, [], D.last) hO.wok hO.pages a v hv
      rw [unpg_some]
      exact h1 a p hv
  have h3 : (crashS D keep soft0).1.left = false → octets (crashS D keep soft0).1.last.2.2 := fun hl =>
    h.c _ (crs_last D.conv keep D.cache D.cache (⟨soft0, List.replicate D.n 0, true, (0, 0, z64), D.L⟩, [], D.last) (fun c hc => hc) (fun hl => Bool.noConfusion (hl : true = false)) hl)
  have h4 := (crashD_cache D keep soft0 tear).1
  refine ⟨by rw [h4]; simp, fun a p hp => ?_⟩
  unfold crashD at hp
  simp only at hp
  split at hp
  · rename_i hc
    unfold tearL at hp
    split at hp
    · simp only [updM] at hp
      split at hp
      · injection hp with hp
        rw [← pgv_inj hp]
        intro z hz
        rcases List.mem_append.1 hz with hz | hz
        · exact h3 hc.1 z (List.mem_of_mem_take hz)
        · exact h2 _ z (List.mem_of_mem_drop hz)
      · exact h1 a p hp
    · exact h1 a p hp
  · exact h1 a p hp
theorem unpg_oct' {D : Dv} (ho : Od D) (hp : ∀ a v, D.last a = some v → ∃ p : List Int, p.length = 64 ∧ v = pgv p) (a : Pl) : octets (unpg (D.last a)) := by
  cases hv : D.last a with
  | none => exact z64_oct
  | some v =>
    obtain ⟨p, _, rfl⟩ := hp a v hv
    rw [unpg_some]
    exact ho.l a p hv
theorem crash_pages {D : Dv} (hO : DvOk D) (keep : List Int) (soft0 tear : Int) : ∀ a v, (crashD D keep soft0 tear).last a = some v → ∃ p : List Int, p.length = 64 ∧ v = pgv p := by
  have e3 : ∀ a v, (crashS D keep soft0).2.2 a = some v → ∃ p : List Int, p.length = 64 ∧ v = pgv p := stl_pages _ _ _ hO.wok hO.pages
  have e4 : (crashS D keep soft0).1.left = false → (crashS D keep soft0).1.last ∈ D.cache := crs_last D.conv keep D.cache D.cache _ (fun c hc => hc) (fun hl => Bool.noConfusion (hl : true = false))
  have e8 : (crashD D keep soft0 tear).last = Prod.snd (if (crashS D keep soft0).1.left = false ∧ 0 < tear then tearL D.conv D.soft D.seq D.size D.opn ((crashS D keep soft0).1.L.map pow) (crashS D keep soft0).2.2 (crashS D keep soft0).1.last (min tear 64).toNat (unpg ((crashS D keep soft0).2.2 (crashS D keep soft0).1.last.pl)) else ((crashS D keep soft0).1.L.map pow, (crashS D keep soft0).2.2)) := rfl
  rw [e8]
  split
  · rename_i hl
    exact tear_pages (by omega) (hO.wok _ (e4 hl.1)) (unpg_get (e3 _)).2 e3
  · exact e3
end Dev
end Go.Proofs.Ythgjlofebicpiaa

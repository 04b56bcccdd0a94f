/-
  CkD CkG CkF CkH
-/
import Derived.Test.YtgnpohkippegpaaGreatMg16
import Derived.Test.YtgnpohkippegpaaGreatMg36
import Derived.Test.YtgnpohkippegpaaGreatMg28
import Derived.Test.YtgnpohkippegpaaGreatMg33
import Derived.Test.YtgnpohkippegpaaGreatMg00
/-
  Devices: plain mathematics of a crash, of whatever zone: each place keeps what it had, or gets one of the pages that were cached for it; but for the place that was written last.
-/
namespace Go.Proofs.YtgnpohkippegpaaGreat
open Go.RowKit Zone Dev
set_option linter.unusedVariables false

namespace Dev
theorem crs_at (conv : Int) (keep : List Int) : ∀ (l : List Wr) (s : Cst × List Wr × (Pl → Option Value)) (a : Pl),
    (stl (crs conv keep) l s).2.2 a = s.2.2 a ∨ ∃ c ∈ l, c.pl = a ∧ (stl (crs conv keep) l s).2.2 a = some (pgv c.2.2)
  | [], s, a => .inl rfl
  | c :: l, (σ, k, f), a => by
    have e : stl (crs conv keep) (c :: l) (σ, k, f) = stl (crs conv keep) l ((crs conv keep σ c).2, if (crs conv keep σ c).1 = 0 then k ++ [c] else k, if (crs conv keep σ c).1 = 1 then updM f c.pl (some (pgv c.2.2)) else f) := rfl
    rw [e]
    rcases crs_at conv keep l _ a with h | ⟨x, hx, h1, h2⟩
    · rw [h]
      by_cases h1 : (crs conv keep σ c).1 = 1
      · simp only [if_pos h1]
        by_cases h2 : c.pl = a
        · subst h2
          exact .inr ⟨c, List.mem_cons_self, rfl, by simp [updM]⟩
        · left
          simp only [updM]
          rw [if_neg]
          first | exact fun e => h2 e.symm | exact h2
      · simp only [if_neg h1]
        exact .inl trivial
    · exact .inr ⟨x, List.mem_cons_of_mem _ hx, h1, h2⟩
/-- the last one that a crash goes over is the one that was written last -/
theorem crs_lastW (conv : Int) (keep : List Int) : ∀ (l : List Wr) (s : Cst × List Wr × (Pl → Option Value)) (c : Wr), l.getLast? = some c → (stl (crs conv keep) l s).1.last = c
  | [], s, c, h => by cases h
  | [x], (σ, k, f), c, h => by
    obtain rfl : x = c := by simpa using h
    show (crs conv keep σ x).2.last = x
    unfold crs
    split <;> rfl
  | x :: y :: l, (σ, k, f), c, h => by
    have e : stl (crs conv keep) (x :: y :: l) (σ, k, f) = stl (crs conv keep) (y :: l) ((crs conv keep σ x).2, if (crs conv keep σ x).1 = 0 then k ++ [x] else k, if (crs conv keep σ x).1 = 1 then updM f x.pl (some (pgv x.2.2)) else f) := rfl
    rw [e]
    exact crs_lastW conv keep (y :: l) _ c (by rw [List.getLast?_cons_cons] at h; exact h)
/-- behind a crash nothing is cached, and the power is there -/
theorem crashD_cache (D : Dv) (keep : List Int) (soft0 tear : Int) : (crashD D keep soft0 tear).cache = [] ∧ (crashD D keep soft0 tear).down = false := by
  have h := crs_cache (conv := D.conv) keep D.cache (⟨soft0, List.replicate D.n 0, true, (0, 0, z64), D.L⟩, [], D.last)
  exact ⟨h, rfl⟩
/-- what a crash leaves at a place -/
theorem crashD_at (D : Dv) (keep : List Int) (soft0 tear : Int) (a : Pl) (hne : ∀ c, D.cache.getLast? = some c → c.pl ≠ a) (hn : D.cache = [] → a ≠ (0, 0)) :
    (crashD D keep soft0 tear).last a = D.last a ∨ ∃ c ∈ D.cache, c.pl = a ∧ (crashD D keep soft0 tear).last a = some (pgv c.2.2) := by
  have h := crs_at D.conv keep D.cache (⟨soft0, List.replicate D.n 0, true, (0, 0, z64), D.L⟩, [], D.last) a
  have hl : (crashS D keep soft0).1.last.pl ≠ a := by
    unfold crashS
    cases hc : D.cache.getLast? with
    | none =>
      have hc' := List.getLast?_eq_none_iff.1 hc
      rw [hc']
      exact fun e => hn hc' e.symm
    | some c =>
      rw [crs_lastW D.conv keep D.cache _ c hc]
      exact hne c hc
  have e : (crashD D keep soft0 tear).last a = (crashS D keep soft0).2.2 a := by
    unfold crashD
    simp only
    split
    · unfold tearL
      split
      · simp only [updM]
        rw [if_neg]
        first | exact fun e => hl e.symm | exact hl
      · rfl
    · rfl
  rw [e]
  exact h
/-- the conventional zones are as they always are -/
structure Cv (D : Dv) : Prop where
  seq : 0 ≤ D.seq
  at_ : ∀ z, 0 ≤ z → z < D.conv → zat D.L z = (4, 0) ∧ z.toNat < D.L.length
theorem cv_of {D : Dv} (hO : DvOk D) : Cv D := by
  have h1 := hO.ok.1
  have h2 := hO.ok.2.1
  have hl := hO.fit.1
  refine ⟨by omega, fun z h0 hz => ?_⟩
  have hlt : z.toNat < D.L.length := by omega
  have hf := hO.fit.2.2 z.toNat hlt
  refine ⟨?_, hlt⟩
  unfold fitZ at hf
  rcases hf with ⟨_, h3, h4⟩ | ⟨h3, _⟩
  · exact Prod.ext h3 h4
  · omega
/-- a write of a conventional sector is cached -/
theorem conv_write {D : Dv} (hC : Cv D) (hd : D.down = false) {z o : Int} {p : List Int} (h0 : 0 ≤ z) (h1 : z < D.conv) (h2 : 0 ≤ o) (h3 : o < D.soft) :
    writeD D (z, o, p) = (0, tick { D with cache := D.cache ++ [(z, o, p)] }) := by
  obtain ⟨e1, e2⟩ := hC.at_ z h0 h1
  have hs := hC.seq
  have hin : inB D.conv D.soft D.seq D.size z o = true := by
    unfold inB sectors
    apply decide_eq_true
    refine ⟨h2, ?_⟩
    repeat' split
    all_goals omega
  have hw : writeL D.conv D.soft D.seq D.size D.opn D.L z o = (D.L, 0) := by
    unfold writeL
    rw [if_pos hin, turnL_eq _ _ _ _ _ _ (in_has hin), e1]
    have e3 : D.L.set z.toNat (4, 0) = D.L := by
      have e4 : D.L[z.toNat] = (4, 0) := by
        have := e1
        unfold zat at this
        rwa [List.getD_eq_getElem?_getD, List.getElem?_eq_getElem e2] at this
      rw [← e4, List.set_getElem_self]
    simp only [writeZ, if_true]
    rw [e3]
  unfold writeD
  rw [if_neg (by simp [hd])]
  simp only [hw]
  rfl
/-- writes, one behind the other, up to the first error -/
def wrs : Dv → List Wr → Int × Dv
  | D, [] => (0, D)
  | D, c :: r => if (writeD D c).1 = 0 then wrs (writeD D c).2 r else writeD D c
theorem tick_same (D : Dv) : (tick D).cache = D.cache ∧ (tick D).last = D.last ∧ (tick D).L = D.L ∧ (tick D).conv = D.conv ∧ (tick D).soft = D.soft ∧ (tick D).seq = D.seq := by
  unfold tick
  split <;> exact ⟨rfl, rfl, rfl, rfl, rfl, rfl⟩
/-- of writes of conventional sectors a first part is cached: all, if there is no error; else the power is gone -/
theorem wrs_conv : ∀ (cs : List Wr) (D : Dv), Cv D → (∀ c ∈ cs, 0 ≤ c.1 ∧ c.1 < D.conv ∧ 0 ≤ c.2.1 ∧ c.2.1 < D.soft) →
    ∃ k, k ≤ cs.length ∧ (wrs D cs).2.cache = D.cache ++ cs.take k ∧ (wrs D cs).2.last = D.last ∧ (wrs D cs).2.L = D.L ∧ ((wrs D cs).1 = 0 → k = cs.length) ∧ ((wrs D cs).1 ≠ 0 → (wrs D cs).1 = 2 ∧ (wrs D cs).2.down = true)
  | [], D, _, _ => ⟨0, Nat.le_refl _, by simp [wrs], rfl, rfl, fun _ => rfl, fun h => absurd rfl h⟩
  | c :: r, D, hC, h => by
    obtain ⟨a0, a1, a2, a3⟩ := h c List.mem_cons_self
    cases hd : D.down
    · have hw := conv_write (p := c.2.2) hC hd a0 a1 a2 a3
      have e : writeD D c = (0, tick { D with cache := D.cache ++ [c] }) := hw
      obtain ⟨t1, t2, t3, t4, t5, t6⟩ := tick_same { D with cache := D.cache ++ [c] }
      generalize tick { D with cache := D.cache ++ [c] } = D' at *
      have hC' : Cv D' := ⟨by rw [t6]; exact hC.seq, fun z h0 h1 => by rw [t3]; exact hC.at_ z h0 (by rw [t4] at h1; exact h1)⟩
      obtain ⟨k, k1, k2, k3, k4, k5, k6⟩ := wrs_conv r D' hC' (fun x hx => by rw [t4, t5]; exact h x (List.mem_cons_of_mem _ hx))
      have e2 : wrs D (c :: r) = wrs D' r := by
        show (if (writeD D c).1 = 0 then wrs (writeD D c).2 r else writeD D c) = _
        rw [e]
        rfl
      rw [e2]
      refine ⟨k + 1, by simpa using k1, ?_, k3.trans t2, k4.trans t3, fun hh => by rw [k5 hh]; rfl, k6⟩
      rw [k2, t1]
      simp
    · have e : writeD D c = (2, D) := if_pos hd
      have e2 : wrs D (c :: r) = (2, D) := by
        show (if (writeD D c).1 = 0 then wrs (writeD D c).2 r else writeD D c) = _
        rw [e]
        rfl
      rw [e2]
      exact ⟨0, Nat.zero_le _, by simp, rfl, rfl, fun hh => (by cases hh), fun _ => ⟨rfl, hd⟩⟩
theorem stl_one : ∀ (l : List Wr) (k : List Wr) (f : Pl → Option Value), stl (fun (_ : Unit) (c : Wr) => ((1 : Int), ())) l ((), k, f) = ((), k, updR f l)
  | [], k, f => rfl
  | c :: r, k, f => by
    have e : stl (fun (_ : Unit) (c : Wr) => ((1 : Int), ())) (c :: r) ((), k, f) = stl (fun (_ : Unit) (c : Wr) => ((1 : Int), ())) r ((), k, updM f c.pl (some (pgv c.2.2))) := rfl
    rw [e, stl_one r]
    rfl
/-- a flush: all that was cached stands where it was written -/
theorem flush_conv {D : Dv} (hd : D.down = false) : (flushD D).1 = 0 ∧ (flushD D).2.cache = [] ∧ (flushD D).2.last = updR D.last D.cache ∧ (flushD D).2.L = D.L ∧ (flushD D).2.conv = D.conv ∧ (flushD D).2.soft = D.soft ∧ (flushD D).2.seq = D.seq := by
  have e : flushD D = (0, tick (sortD (fun _ => 1) D)) := if_neg (by simp [hd])
  rw [e]
  obtain ⟨t1, t2, t3, t4, t5, t6⟩ := tick_same (sortD (fun _ => 1) D)
  have e2 := stl_one D.cache [] D.last
  refine ⟨rfl, t1.trans ?_, t2.trans ?_, t3, t4, t5, t6⟩
  · show (stl (fun (_ : Unit) (c : Wr) => ((1 : Int), ())) D.cache ((), [], D.last)).2.1 = []
    rw [e2]
  · show (stl (fun (_ : Unit) (c : Wr) => ((1 : Int), ())) D.cache ((), [], D.last)).2.2 = _
    rw [e2]
/-- a place that no write names stays as it was -/
theorem updR_out : ∀ (l : List Wr) (f : Pl → Option Value) (a : Pl), (∀ c ∈ l, c.pl ≠ a) → updR f l a = f a
  | [], f, a, _ => rfl
  | c :: r, f, a, h => by
    have e : updR f (c :: r) = updR (updM f c.pl (some (pgv c.2.2))) r := rfl
    rw [e, updR_out r _ a (fun x hx => h x (List.mem_cons_of_mem _ hx))]
    unfold updM
    exact if_neg fun e => h c List.mem_cons_self e.symm
end Dev
end Go.Proofs.YtgnpohkippegpaaGreat

/-
  Regions on a device: plain mathematics: what is read of a conventional zone; bytes are octets; sectors laid one by one.
-/
namespace Go.Proofs.YtgnpohkippegpaaGreat
open Go.RowKit Geom Zone Dev Ckp Word
set_option linter.unusedVariables false

namespace Dev
/-- a conventional sector can be read -/
theorem conv_read {D : Dv} (hC : Cv D) (hd : D.down = false) {z o : Int} (h0 : 0 ≤ z) (h1 : z < D.conv) (h2 : 0 ≤ o) (h3 : o < D.soft) : readD D (z, o) = (pageD D (z, o), 0, D) := by
  obtain ⟨e1, e2⟩ := hC.at_ z h0 h1
  have hs := hC.seq
  have hin : inB D.conv D.soft D.seq D.size z o = true := by
    unfold inB sectors
    apply decide_eq_true
    refine ⟨h2, ?_⟩
    repeat' split
    all_goals omega
  have e : readE D.conv D.soft D.seq D.size D.L z o = 0 := by
    unfold readE
    rw [if_pos hin, if_neg (by rw [e1]; simp)]
  unfold readD
  rw [if_neg (by simp [hd]), if_neg (by simp [e])]
theorem page_len {D : Dv} (h : DvOk D) (a : Pl) : (pageD D a).length = 64 := by
  unfold pageD
  cases hn : newest D.cache a with
  | none => exact (unpg_get (h.pages a)).2
  | some i =>
    show (D.cache.getD i (0, 0, z64)).2.2.length = 64
    rw [List.getD_eq_getElem?_getD]
    cases hi : D.cache[i]? with
    | none => rfl
    | some c => exact h.wok c (List.mem_of_getElem? hi)
/-- all bytes on the device are octets -/
structure Od (D : Dv) : Prop where
  c : ∀ x ∈ D.cache, octets x.2.2
  l : ∀ a p, D.last a = some (pgv p) → octets p
theorem z64_oct : octets z64 := fun z hz => by
  rw [List.eq_of_mem_replicate hz]
  omega
theorem pgv_inj {p q : List Int} (h : pgv p = pgv q) : p = q := by
  unfold pgv at h
  injection h with h
  have h2 : bs p = bs q := by
    have := congrArg Array.toList h
    simpa using this
  exact bs_inj h2
theorem unpg_oct {D : Dv} (h : DvOk D) (ho : Od D) (a : Pl) : octets (unpg (D.last a)) := by
  cases hv : D.last a with
  | none => exact z64_oct
  | some v =>
    obtain ⟨p, _, rfl⟩ := h.pages a v hv
    rw [unpg_some]
    exact ho.l a p hv
theorem page_oct {D : Dv} (h : DvOk D) (ho : Od D) (a : Pl) : octets (pageD D a) := by
  unfold pageD
  cases hn : newest D.cache a with
  | none => exact unpg_oct h ho a
  | some i =>
    show octets (D.cache.getD i (0, 0, z64)).2.2
    rw [List.getD_eq_getElem?_getD]
    cases hi : D.cache[i]? with
    | none => exact z64_oct
    | some c => exact ho.c c (List.mem_of_getElem? hi)
/-- a region's sectors, as the device has them -/
def regD (D : Dv) (odd : Int) (N : Nat) : List (List Int) := (List.range N).map fun i : Nat => pageD D (plZ odd, plO odd + (i : Int))
theorem regD_length (D : Dv) (odd : Int) (N : Nat) : (regD D odd N).length = N := by simp [regD]
theorem regD_at {D : Dv} {odd : Int} {N i : Nat} (h : i < N) : (regD D odd N)[i]? = some (pageD D (plZ odd, plO odd + (i : Int))) := by simp [regD, h]
theorem regD_mem {D : Dv} {odd : Int} {N : Nat} {p : List Int} (h : p ∈ regD D odd N) : ∃ a, p = pageD D a := by
  obtain ⟨i, _, rfl⟩ := List.mem_map.1 h
  exact ⟨_, rfl⟩
theorem regD_64 {D : Dv} (h : DvOk D) (odd : Int) (N : Nat) : P64 (regD D odd N) := fun p hp => by
  obtain ⟨a, rfl⟩ := regD_mem hp
  exact page_len h a
theorem regD_oct {D : Dv} (h : DvOk D) (ho : Od D) (odd : Int) (N : Nat) : Oct (regD D odd N) := fun p hp => by
  obtain ⟨a, rfl⟩ := regD_mem hp
  exact page_oct h ho a
end Dev
namespace Ckp
theorem plZ_in (low : Int) : 0 ≤ plZ low ∧ plZ low ≤ 1 := by unfold plZ; split <;> omega
theorem plO_in (low : Int) : 0 ≤ plO low ∧ plO low ≤ 1 := by unfold plO; split <;> omega
/-- the first k sectors laid, the others zero -/
def pgTo (ls : List (List Int)) (k : Nat) : List (List Int) := ls.take k ++ List.replicate (ls.length - k) pg0
theorem pgTo_zero (ls : List (List Int)) : pgTo ls 0 = List.replicate ls.length pg0 := by simp [pgTo]
theorem pgTo_all (ls : List (List Int)) : pgTo ls ls.length = ls := by simp [pgTo]
theorem pg0_64 : (pg0 : List Int).length = 64 := by simp
theorem pgTo_64 {ls : List (List Int)} (h : P64 ls) (k : Nat) : P64 (pgTo ls k) := by
  intro l hl
  rcases List.mem_append.1 hl with h1 | h1
  · exact h l (List.mem_of_mem_take h1)
  · rw [List.eq_of_mem_replicate h1]; exact pg0_64
theorem pgTo_length {ls : List (List Int)} {k : Nat} (hk : k ≤ ls.length) : (pgTo ls k).length = ls.length := by simp [pgTo]; omega
theorem pgTo_lay {ls : List (List Int)} (h : P64 ls) {k : Nat} {p : List Int} (hl : ls[k]? = some p) : lay (pgcs (pgTo ls k)) (k * 64) (bs p) = pgcs (pgTo ls (k + 1)) := by
  obtain ⟨hk, rfl⟩ := List.getElem?_eq_some_iff.1 hl
  have e1 : ls.length - k = (ls.length - (k + 1)) + 1 := by omega
  have e2 : ∀ (p : List Int) (l : List (List Int)), pgcs (p :: l) = bs p ++ pgcs l := fun _ _ => rfl
  unfold pgTo
  rw [e1, List.replicate_succ, pgcs_append, e2, lay_mid ?_ ?_, List.take_succ_eq_append_getElem hk, pgcs_append, pgcs_append, pgcs_one, List.append_assoc]
  · rw [pgcs_length (fun x hx => h x (List.mem_of_mem_take hx)), List.length_take]
    congr 1
    omega
  · rw [bs_length, bs_length, pg0_64, h _ (List.getElem_mem hk)]
end Ckp
theorem make_pgs (w : World) (m : Nat) (hm : m ≤ 1000) :
    (Instr.makeSlice 40 (.int .i64 (m : Int)) (.int .i64 (m : Int))).run Tryz.prog w = .ok (rowAt w.heap.size m) (w.alloc (.cells (pgcs (List.replicate m pg0)).toArray 43)) := by
  obtain ⟨i, hi, hz, hs, hb⟩ := info_parts (P := Tryz.prog) (e := 43) (z := .agg (bs pg0).toArray) (size := 64) (bytes := 64) (by kernel_rfl)
  have hr := run_make (P := Tryz.prog) w 40 43 i _ Tryz.underlying40 hi hz .i64 .i64 m m (by omega) (Int.le_refl _) (by rw [hb]; omega) (by omega)
  have e1 : bs pg0 = List.replicate 64 (Value.int .u8 0) := rfl
  have e : (madeCells (bs pg0).toArray (m * 64)) = (pgcs (List.replicate m pg0)).toArray := by
    have e2 : ∀ m, pgcs (List.replicate m pg0) = List.replicate (m * 64) (Value.int .u8 0) := by
      intro m
      induction m with
      | zero => rfl
      | succ m ih =>
        rw [List.replicate_succ]
        show bs pg0 ++ pgcs (List.replicate m pg0) = _
        rw [ih, e1, show (m + 1) * 64 = 64 + m * 64 by omega, ← List.replicate_append_replicate]
    rw [e2, e1]
    generalize hX : (64 : Nat) = X
    have hX0 : 0 < X := by omega
    apply Array.ext_getElem?
    intro i
    by_cases hi : i < m * X
    · have := Nat.mod_lt i hX0
      simp [madeCells, hi, this]
    · simp [madeCells, hi]
  rw [hr, hs, Int.toNat_natCast, show (Value.agg (bs pg0).toArray).cells = (bs pg0).toArray from rfl, e]
theorem wpList_pg_lay {w : World} {ops : Array Oper} {rest : List Oper} {o : Oper} {a : Act} {Q : Exit → Act → World → Prop} (hgd : o.guard = none) (x y : Operand) (ho : o.op = .store 43 x y) (g off : Nat) (p : List Int) (cs : List Value) (hp : p.length = 64) (hl : off + 64 ≤ cs.length) (hx : a.eval x = .pointer (some ⟨g, off, none⟩)) (hy : a.eval y = .agg (bs p).toArray) (hb : Box w g 43 cs)
    (h : ∀ w', Box w' g 43 (lay cs off (bs p)) → w.grownBy w' (some g) → w'.heap.size = w.heap.size → wpList Tryz.prog ops Q rest (a.put o.dst undef) w') : wpList Tryz.prog ops Q (o :: rest) a w :=
  wpList_store_midbox w hgd _ x y ho g off _ cs (bs p) (pg_size hp) (by rw [bs_length, hp]; exact hl) (fun u hu => bs_one _ _ hu) hx hy hb h
end Go.Proofs.YtgnpohkippegpaaGreat

/-
  Package ckpt: what stands in a region (sectors).
-/
namespace Go.Proofs.YtgnpohkippegpaaGreat
open Go.RowKit Geom Zone Dev Ckp Word
set_option linter.unusedVariables false

/-- but for one block -/
abbrev Bt (T : Nat → Prop) (b : Nat) : Nat → Prop := fun k => T k ∧ k ≠ b
set_option maxRecDepth 100000 in
set_option maxHeartbeats 4000000 in
theorem cksectors_any (conv soft seq size opn low : Int) (P N : Nat) {w : World} {d : Nat} {T : Nat → Prop} {D : Dv} (H : Some conv seq size) (hP : Geom.pages seq size = (P : Int)) (hN : N = P + 2) (hlow : 0 ≤ low ∧ low ≤ 1)
    (hT : ∀ k, w.heap.size ≤ k → T k) (hO : DvOk D) (hd : D.down = false) (hs : (P : Int) + 3 ≤ D.soft) (hI : DevIs T w d D) :
    Calls Tryz.prog 39 #[dp d, gvl conv soft seq size opn, .int .i64 low] w fun e w' => ∃ b, e = .returned (.tuple #[rowAt b N, .int .i64 0]) ∧ Box w' b 43 (pgcs (regD D low N)) ∧ w.heap.size ≤ b ∧ DevIs (Bt T b) w' d D ∧ Fr T w w' := by
  obtain ⟨m6, hm6, hszp⟩ := big_size (P := Tryz.prog) (t := 43) (s := 64) (by kernel_rfl)
  have hm60 : ¬ m6 = 0 := by omega
  have HM := Lib.hid hm6
  have hp410 := pages_bd H
  have hP410 : P ≤ 410 := by omega
  have HPg := Lib.hid fun w' => pages_any conv soft seq size opn w' H
  rw [hP] at HPg
  have HO := Lib.hid (And.intro hO (And.intro (cv_of hO) hd))
  have HT := Lib.hid hT
  have HI := Lib.hid hI
  have HC2 : Hid (2 ≤ D.conv) := Lib.hid hO.ok.1
  have HLo := Lib.hid (And.intro hlow (And.intro hs hN))
  have hmk := fun w' => make_pgs w' N (by omega)
  have hq2 : IntKind.i64.wrap ((P : Int) + 2) = (N : Int) := by rw [IntWalk.i64_in _ (by omega)]; omega
  have hP0 : (0 : Int) ≤ (P : Int) := by omega
  have hmx : max (P : Int) 0 = (P : Int) := by omega
  clear hm6 H hP hT hO hd hs hI hlow hp410
  have hN410 : N ≤ 412 := by omega
  clear hN
  have HR6 := Lib.hid (And.intro (regD_length D low N) (regD_64 HO.out.1 low N))
  have HRa := Lib.hid fun (i : Nat) (h : i < N) => regD_at (D := D) (odd := low) h
  generalize regD D low N = L at *
  have HC0 := Lib.hid (show pgcs (List.replicate N pg0) = pgcs (pgTo L 0) by rw [pgTo_zero, HR6.out.1])
  generalize hC0 : pgcs (List.replicate N pg0) = C0 at *
  clear hC0
  go_enter Tryz.func39, Tryz.ntmps39
  go_wp2_with (first
    | ((with_reducible refine wpList_box_box _ (o := ⟨some 4, .box _ _, _, _, _, _⟩) rfl _ _ rfl (gcl conv soft seq size opn) rfl ?_); intro w1 x0 hB1 hs1; clear hs1; have c0 : w1.cell? ⟨w.heap.size, 0, none⟩ = some (.int .i64 conv) := x0.cell 0; have c1 : w1.cell? ⟨w.heap.size, 1, none⟩ = some (.int .i64 soft) := x0.cell 1; have c2 : w1.cell? ⟨w.heap.size, 2, none⟩ = some (.int .i64 seq) := x0.cell 2; have c3 : w1.cell? ⟨w.heap.size, 3, none⟩ = some (.int .i64 size) := x0.cell 3; have c4 : w1.cell? ⟨w.heap.size, 4, none⟩ = some (.int .i64 opn) := x0.cell 4)
    | fail)
  refine (HPg.out _).mono ?_
  rintro e w2 ⟨rfl, hB2⟩
  have HB2 := Lib.hid (bthen hB1 hB2)
  clear c0 c1 c2 c3 c4 x0 hB1 hB2 HPg
  go_wp2
  have HX : Hid (Box (w2.alloc (.cells C0.toArray 43 (0, 0))) w2.heap.size 43 (pgcs (pgTo L 0))) := Lib.hid (by have h := Box.new w2 43 C0; generalize w2.alloc (.cells C0.toArray 43 (0, 0)) = w3 at h ⊢; rwa [HC0.out] at h)
  have HBw := Lib.hid (HB2.out.alloc HB2.out.size (.cells C0.toArray 43 (0, 0)))
  have HTb : Hid (∀ k, (w2.alloc (.cells C0.toArray 43 (0, 0))).heap.size ≤ k → Bt T w2.heap.size k) := Lib.hid fun k hk => by
    have h := HB2.out.size
    simp at hk
    exact ⟨HT.out k (by omega), by omega⟩
  have HIb := Lib.hid ((HI.out.shrink (U := Bt T w2.heap.size) fun k hk ht => ⟨ht, fun e => by have := HB2.out.size; omega⟩).below HBw.out)
  have HFb : Hid (Fr T w (w2.alloc (.cells C0.toArray 43 (0, 0)))) := Lib.hid (Fr.of_below HBw.out)
  have HBb := Lib.hid HB2.out.size
  clear HI HTb HBw HC0 hmk HB2
  generalize hW : w2.alloc (.cells C0.toArray 43 (0, 0)) = w3 at *
  clear hW
  generalize w2.heap.size = b at *
  go_loopw [19] (fun i wr => ∃ k : Nat, k ≤ N ∧ i = .int .i64 k ∧ Box wr b 43 (pgcs (pgTo L k)) ∧ DevIs (Bt T b) wr d D ∧ Fr T w wr) (fun i _ => N - (intOf i).toNat)
  case atStart => exact ⟨0, by omega, rfl, HX.out, HIb.out, HFb.out⟩
  case round =>
    clear HX HIb HFb
    obtain ⟨k, hk, rfl, hbx, hdv, hfr⟩ := hrel
    have HS := Lib.hid (And.intro hbx (And.intro hdv hfr))
    clear hbx hdv hfr
    by_cases hlt : k < N
    · have hki : (k : Int) < (N : Int) := by omega
      have hLk := HRa.out k hlt
      have HLk := Lib.hid hLk
      have hmem := List.mem_of_getElem? hLk
      have HP64 := Lib.hid (HR6.out.2 _ hmem)
      have HLay := Lib.hid (pgTo_lay HR6.out.2 hLk)
      have HLe : Hid (k * m6 + 64 ≤ (pgcs (pgTo L k)).length) := Lib.hid (by rw [HM.out, pgcs_length (pgTo_64 HR6.out.2 k), pgTo_length (by rw [HR6.out.1]; exact hk), HR6.out.1]; omega)
      clear hLk hmem
      go_wp2_with fail
      refine (ckplace_any low (k : Int) wr (by omega) (by omega)).mono ?_
      rintro e w4 ⟨rfl, hB4⟩
      have H4 : Hid (Box w4 b 43 (pgcs (pgTo L k)) ∧ DevIs (Bt T b) w4 d D ∧ Fr T w w4) := Lib.hid ⟨HS.out.1.on hB4, HS.out.2.1.below hB4, HS.out.2.2.trans (Fr.of_below hB4)⟩
      have HTk : Hid (∀ j, w4.heap.size ≤ j → Bt T b j) := Lib.hid fun j hj => ⟨HT.out j (by have := H4.out.2.2.size; omega), fun e => by have := H4.out.1.lt; omega⟩
      have hpz := plZ_in low
      have hpo := plO_in low
      have hrd := conv_read (z := plZ low) (o := plO low + (k : Int)) HO.out.2.1 HO.out.2.2 hpz.1 (by have := HC2.out; omega) (by omega) (by have := HLo.out; omega)
      have HRd := Lib.hid (read_any (T := Bt T b) (plZ low, plO low + (k : Int)) ⟨w64 (by omega) (by omega), w64 (by omega) (by omega)⟩ HTk.out HO.out.1 H4.out.2.1)
      rw [hrd] at HRd
      clear hrd hB4 HS
      go_wp2_with fail
      refine HRd.out.mono ?_
      rintro e w5 ⟨rfl, hI5, hF5⟩
      generalize pageD D (plZ low, plO low + (k : Int)) = p at *
      have H5 : Hid (Box w5 b 43 (pgcs (pgTo L k)) ∧ DevIs (Bt T b) w5 d D ∧ Fr T w w5) := Lib.hid ⟨H4.out.1.same (hF5.same H4.out.1.lt fun h => h.2 rfl), hI5, H4.out.2.2.trans (hF5.mono fun k _ h => h.1)⟩
      clear hI5 hF5 H4 HRd HTk
      go_wp2_with (first
        | ((with_reducible refine wpList_pg_alloc (o := ⟨some 10, .alloc _, _, _, _, _⟩) rfl rfl ?_); intro w6 x6 hB6 hs6; clear hs6)
        | ((with_reducible refine wpList_pg_store (o := ⟨none, .store _ (.tmp 10) _, _, _, _, _⟩) rfl _ _ rfl w5.heap.size p pg0 HP64.out rfl rfl rfl x6 ?_); intro w7 x7 hg7 hs7; have K7 := below_stored hB6 hg7 hB6.size (Nat.le_refl _); have H7 : Hid (Box w7 b 43 (pgcs (pgTo L k)) ∧ DevIs (Bt T b) w7 d D ∧ Fr T w w7) := Lib.hid ⟨H5.out.1.on K7, H5.out.2.1.below K7, H5.out.2.2.trans (Fr.of_below K7)⟩; have l7 := big_load0 Tryz.prog w5.heap.size 0 (bs p) m6 (by rw [bs_length, HP64.out, HM.out]) _ x7.range0; clear x6 hB6 x7 hg7 hs7 K7 H5; generalize w5.heap.size = bp at *)
        | ((with_reducible refine wpList_pg_lay (o := ⟨none, .store _ (.tmp 36) _, _, _, _, _⟩) rfl _ _ rfl b (k * m6) p (pgcs (pgTo L k)) HP64.out HLe.out rfl rfl H7.out.1 ?_); go_loud (intro w8 x8 hg8 hs8; rw [HM.out, HLay.out] at x8; have H8 : Hid (Box w8 b 43 (pgcs (pgTo L (k + 1))) ∧ DevIs (Bt T b) w8 d D ∧ Fr T w w8) := Lib.hid ⟨x8, H7.out.2.1.keep fun j hj ht => hg8.block j hj (fun e => ht.2 (Option.some.inj e)), H7.out.2.2.trans (Fr.of_grown hg8 fun j hj => by injection hj with hj; subst hj; exact HT.out _ HBb.out)⟩; clear x8 hg8 hs8 l7 H7))
        | fail)
      go_roundw
      case rel => exact ⟨k + 1, by omega, by go_num, H8.out⟩
      case measure => simp [intOf]; omega
    · obtain rfl : N = k := by omega
      have HX : Hid (Box wr b 43 (pgcs L)) := Lib.hid (by
        have h := HS.out.1
        rwa [← HR6.out.1, pgTo_all] at h)
      go_wp2
      go_ret2
      exact ⟨b, rfl, HX.out, HBb.out, HS.out.2⟩
end Go.Proofs.YtgnpohkippegpaaGreat

/-
  Package ckpt: the table whose leaves stand in a region (tableOf).
-/
namespace Go.Proofs.YtgnpohkippegpaaGreat
open Go.RowKit Geom Zone Dev Ckp Word
set_option linter.unusedVariables false

namespace Ckp
open Tbl Leaf
/-- what the leaves' sectors read as -/
def rl (ps : List (List Int)) : List Lf := ps.map fun p => (Leaf.readS p).1
theorem rl_length (ps : List (List Int)) : (rl ps).length = ps.length := by simp [rl]
theorem rl_at {ps : List (List Int)} {k : Nat} {p : List Int} (h : ps[k]? = some p) : (rl ps)[k]? = some (Leaf.readS p).1 := by simp [rl, h]
theorem rl_in (ps : List (List Int)) : ∀ l ∈ rl ps, Leaf.In l := fun l hl => by
  obtain ⟨p, _, rfl⟩ := List.mem_map.1 hl
  exact Leaf.read_in p
theorem lfR_yes {gen : Int} {i : Nat} {p : List Int} (h1 : (Leaf.readS p).2 = 0) (h2 : (Leaf.readS p).1.gen = gen) (h3 : (Leaf.readS p).1.index = i) : lfR gen i p = some (Leaf.readS p).1 := if_pos ⟨h1, h2, h3⟩
theorem lfsR_yes {gen : Int} : ∀ (ps : List (List Int)) (i : Nat), (∀ j p, ps[j]? = some p → lfR gen (i + j) p = some (Leaf.readS p).1) → lfsR gen i ps = some (rl ps)
  | [], i, _ => rfl
  | p :: ps, i, h => by
    have h0 : lfR gen i p = some (Leaf.readS p).1 := h 0 p rfl
    have ih := lfsR_yes ps (i + 1) fun j q hq => by
      have := h (j + 1) q (by simpa using hq)
      rwa [show i + (j + 1) = i + 1 + j by omega] at this
    simp only [lfsR, h0, ih, rl, List.map_cons]
theorem lfsR_no {gen : Int} : ∀ (ps : List (List Int)) (i j : Nat) (p : List Int), ps[j]? = some p → lfR gen (i + j) p = none → lfsR gen i ps = none
  | [], i, j, p, h, _ => by simp at h
  | q :: ps, i, 0, p, h, hn => by
    obtain rfl : q = p := by simpa using h
    have h0 : lfR gen i q = none := hn
    simp only [lfsR, h0]
  | q :: ps, i, j + 1, p, h, hn => by
    have ih := lfsR_no ps (i + 1) j p (by simpa using h) (by rwa [show i + 1 + j = i + (j + 1) by omega])
    simp only [lfsR, ih]
    cases lfR gen i q <;> rfl
/-- the table whose leaves stand in these sectors -/
def tabR (n : Nat) (gen : Int) (ps : List (List Int)) : Option (List Int) :=
  match lfsR gen 0 ps with
  | none => none
  | some ls => ofT n ls
theorem tabR_no {n : Nat} {gen : Int} {ps : List (List Int)} (h : lfsR gen 0 ps = none) : tabR n gen ps = none := by unfold tabR; rw [h]
theorem tabR_yes {n : Nat} {gen : Int} {ps : List (List Int)} {ls : List Lf} (h : lfsR gen 0 ps = some ls) : tabR n gen ps = ofT n ls := by unfold tabR; rw [h]
end Ckp
/-- what tableOf answers -/
def TbPost (w w' : World) (n : Nat) (R : Option (List Int)) (e : Ending) : Prop :=
  match R with
  | none => e = .returned (.tuple #[.pointer none, .bool false])
  | some ys => ∃ d g h, e = .returned (.tuple #[tp d, .bool true]) ∧ TbIs w' d g h n ys (List.replicate (Tbl.pages n) false) ∧ w.heap.size ≤ d ∧ w.heap.size ≤ g ∧ w.heap.size ≤ h
theorem TbPost.no {w w' : World} {n : Nat} {R : Option (List Int)} {e : Ending} (h : R = none) (he : e = .returned (.tuple #[.pointer none, .bool false])) : TbPost w w' n R e := by subst h; exact he
theorem TbPost.yes {w w' : World} {n : Nat} {R : Option (List Int)} {e : Ending} {d g h : Nat} {ys : List Int} (hR : R = some ys) (he : e = .returned (.tuple #[tp d, .bool true])) (t : TbIs w' d g h n ys (List.replicate (Tbl.pages n) false)) (h1 : w.heap.size ≤ d) (h2 : w.heap.size ≤ g) (h3 : w.heap.size ≤ h) : TbPost w w' n R e := by subst hR; exact ⟨d, g, h, he, t, h1, h2, h3⟩
set_option maxRecDepth 100000 in
set_option maxHeartbeats 4000000 in
theorem cktable_any (conv soft seq size opn gen : Int) (n Q cap : Nat) (A : Option Addr) (ps : List (List Int)) (w : World) (H : Some conv seq size) (hb : blocks seq size = (n : Int)) (hQ : ps.length = Q) (hQ5 : Q ≤ 500) (hl : P64 ps) (ho : Oct ps) (hr : Rd w w.heap.size A (pgcs ps)) :
    Calls Tryz.prog 69 #[gvl conv soft seq size opn, .int .i64 gen, .slice A Q cap] w fun e w' => TbPost w w' n (tabR n gen ps) e ∧ Below w.heap.size w w' := by
  obtain ⟨m6, hm6, hszp⟩ := big_size (P := Tryz.prog) (t := 43) (s := 64) (by kernel_rfl)
  obtain ⟨ml, hml, hszl⟩ := big_size (P := Tryz.prog) (t := 86) (s := 12) (by kernel_rfl)
  have hm60 : ¬ m6 = 0 := by omega
  have hml0 : ¬ ml = 0 := by omega
  have HM := Lib.hid (And.intro hm6 hml)
  have hbb := blocks_bd H
  have HBk := Lib.hid fun w' => blocks_any conv soft seq size opn w' H
  rw [hb] at HBk
  have HN : Hid (n ≤ 4096) := Lib.hid (by omega)
  have HQ := Lib.hid (And.intro hQ hQ5)
  have HP := Lib.hid (And.intro hl (And.intro ho hr))
  have hmk := fun w' => make_lfs w' Q (by omega)
  have HZ := Lib.hid (show lfls (List.replicate Q Leaf.lf0) = lfls (lfTo (rl ps) 0) by rw [lfTo_zero, rl_length, hQ])
  clear hm6 hml H hb hbb hQ hl ho hr
  generalize hC0 : lfls (List.replicate Q Leaf.lf0) = C0 at *
  clear hC0
  go_enter Tryz.func69, Tryz.ntmps69
  go_wp2_with (first
    | ((with_reducible refine wpList_box_box _ (o := ⟨some 3, .box _ _, _, _, _, _⟩) rfl _ _ rfl (gcl conv soft seq size opn) rfl ?_); intro w1 x0 hB1 hs1; clear hs1)
    | fail)
  have HX : Hid (Box (w1.alloc (.cells C0.toArray 86 (0, 0))) w1.heap.size 86 (lfls (lfTo (rl ps) 0))) := Lib.hid (by have h := Box.new w1 86 C0; generalize w1.alloc (.cells C0.toArray 86 (0, 0)) = w3 at h ⊢; rwa [HZ.out] at h)
  have HK := Lib.hid ((Below.refl w1.heap.size w1).alloc (Nat.le_refl _) (.cells C0.toArray 86 (0, 0)))
  have HG : Hid (Box (w1.alloc (.cells C0.toArray 86 (0, 0))) w.heap.size 23 (gcl conv soft seq size opn) ∧ Below w.heap.size w (w1.alloc (.cells C0.toArray 86 (0, 0))) ∧ w.heap.size ≤ w1.heap.size) := Lib.hid ⟨x0.on HK.out, bthen hB1 HK.out, hB1.size⟩
  clear HZ HK hmk x0 hB1
  generalize hW : w1.alloc (.cells C0.toArray 86 (0, 0)) = w3 at *
  clear hW
  generalize w1.heap.size = b at *
  go_loopw [20] (fun i wr => ∃ k : Nat, k ≤ Q ∧ i = .int .i64 k ∧ Box wr b 86 (lfls (lfTo (rl ps) k)) ∧ Box wr w.heap.size 23 (gcl conv soft seq size opn) ∧ Below w.heap.size w wr ∧ ∀ j p, j < k → ps[j]? = some p → lfR gen j p = some (Leaf.readS p).1) (fun i _ => Q - (intOf i).toNat)
  case atStart => exact ⟨0, by omega, rfl, HX.out, HG.out.1, HG.out.2.1, fun j p hj => by omega⟩
  case round =>
    have HBb := Lib.hid HG.out.2.2
    clear HX HG
    obtain ⟨k, hk, rfl, hbx, hgx, hbl, hall⟩ := hrel
    have HS := Lib.hid (And.intro hbx (And.intro hgx (And.intro hbl hall)))
    clear hbx hgx hbl hall
    by_cases hlt : k < Q
    · obtain ⟨p, hp⟩ : ∃ p, ps[k]? = some p := ⟨ps[k]'(by rw [HQ.out.1]; exact hlt), List.getElem?_eq_getElem _⟩
      have hpm := List.mem_of_getElem? hp
      have HPp := Lib.hid (And.intro (HP.out.1 p hpm) (HP.out.2.1 p hpm))
      obtain ⟨ad, rfl, hld⟩ := big_elem Tryz.prog (w := wr) (m := m6) (HP.out.2.2.below HS.out.2.2.1) (fun y hy => (HP.out.1.bs y hy).trans HM.out.1.symm) (by omega) k p hp
      have hki : (k : Int) < (Q : Int) := by omega
      have HLi := Lib.hid (Leaf.read_in p)
      have HLay := Lib.hid (lfTo_lay (rl_in ps) (rl_at hp))
      have HLe : Hid (k * ml + 12 ≤ (lfls (lfTo (rl ps) k)).length) := Lib.hid (by rw [HM.out.2, lfls_length (lfTo_in (rl_in ps) k), lfTo_length (by rw [rl_length, HQ.out.1]; exact hk), rl_length, HQ.out.1]; omega)
      have HNo := Lib.hid fun (h : lfR gen k p = none) => tabR_no (n := n) (lfsR_no ps 0 k p hp (by rwa [Nat.zero_add]))
      have HYe := Lib.hid fun h1 h2 h3 => lfR_yes (gen := gen) (i := k) (p := p) h1 h2 h3
      have HNi : Hid (¬ ((Leaf.readS p).2 = 0 ∧ (Leaf.readS p).1.gen = gen ∧ (Leaf.readS p).1.index = k) → lfR gen k p = none) := Lib.hid fun h => if_neg h
      have HPk := Lib.hid hp
      clear hp hpm
      go_wp2_with (first
        | ((with_reducible refine wpList_pg_alloc (o := ⟨some 10, .alloc _, _, _, _, _⟩) rfl rfl ?_); intro w5 x5 hB5 hs5; clear hs5)
        | ((with_reducible refine wpList_pg_store (o := ⟨none, .store _ _ _, _, _, _, _⟩) rfl _ _ rfl wr.heap.size p pg0 HPp.out.1 rfl rfl rfl x5 ?_); intro w6 x6 hg6 hs6; have K6 := below_stored hB5 hg6 hB5.size (Nat.le_refl _); have S6 := Lib.hid (And.intro (HS.out.1.on K6) (And.intro (HS.out.2.1.on K6) (bthen HS.out.2.2.1 K6))); have l6 := big_load0 Tryz.prog wr.heap.size 0 (bs p) m6 (by rw [bs_length, HPp.out.1, HM.out.1]) _ x6.range0; have HAl := Lib.hid HS.out.2.2.2; clear hB5 x5 hg6 hs6 hld HS x6 K6; generalize wr.heap.size = bp at *)
        | fail)
      refine (lfread_any p w6 HPp.out.1 HPp.out.2).mono ?_
      rintro e w7 ⟨rfl, hb7⟩
      have S7 := Lib.hid (And.intro (S6.out.1.on hb7) (And.intro (S6.out.2.1.on hb7) (bthen S6.out.2.2 hb7)))
      clear hb7 l6 S6
      generalize hlf : (Leaf.readS p).1 = lf at *
      generalize her : (Leaf.readS p).2 = er at *
      have HRe := Lib.hid (And.intro hlf her)
      clear hlf her
      have hw7 := S7.out.2.2.size
      by_cases he : er = 0
      · by_cases hg : lf.gen = gen
        · by_cases hix : lf.index = (k : Int)
          · have HAk : Hid (∀ j p, j < k + 1 → ps[j]? = some p → lfR gen j p = some (Leaf.readS p).1) := Lib.hid fun j q hj hq => by
              rcases Nat.lt_or_ge j k with h | h
              · exact HAl.out j q h hq
              · obtain rfl : j = k := by omega
                have h2 := HPk.out
                rw [hq] at h2
                obtain rfl : q = p := by injection h2
                rw [HRe.out.1]
                exact HYe.out he hg hix
            have e1 : (er != 0) = false := by simp [he]
            have e2 : (lf.gen != gen) = false := by simp [hg]
            have e3 : (lf.index != (k : Int)) = false := by simp [hix]
            clear he hg hix HAl
            go_wp2_with (first
              | ((with_reducible refine wpList_lf_alloc (o := ⟨some 11, .alloc _, _, _, _, _⟩) rfl rfl ?_); intro w8 x8 hB8 hs8; clear hs8)
              | ((with_reducible refine wpList_lf_store (o := ⟨none, .store 86 (.tmp 11) _, _, _, _, _⟩) rfl _ _ rfl w7.heap.size lf Leaf.lf0 HLi.out Leaf.lf0_in rfl rfl x8 ?_); go_loud (intro w9 x9 hg9 hs9; have K9 := below_stored hB8 hg9 hB8.size (Nat.le_refl _); have S9 := Lib.hid (And.intro (S7.out.1.on K9) (And.intro (S7.out.2.1.on K9) (bthen S7.out.2.2 K9))); have l9 := big_load0 Tryz.prog w7.heap.size 0 (lcs lf) ml (by rw [lcs_length HLi.out, HM.out.2]) _ x9.range0; obtain ⟨c0, c1⟩ := x9.lf; clear hB8 x8 hg9 hs9 S7 x9 K9; generalize w7.heap.size = bv at *))
              | ((with_reducible refine wpList_lf_lay (o := ⟨none, .store 86 (.tmp 47) _, _, _, _, _⟩) rfl _ _ rfl b (k * ml) lf (lfls (lfTo (rl ps) k)) HLi.out HLe.out rfl rfl S9.out.1 ?_); go_loud (intro w10 x10 hg10 hs10; rw [HM.out.2, HLay.out] at x10; have S10 : Hid (Box w10 b 86 (lfls (lfTo (rl ps) (k + 1))) ∧ Box w10 w.heap.size 23 (gcl conv soft seq size opn) ∧ Below w.heap.size w w10) := Lib.hid ⟨x10, S9.out.2.1.grown hg10 (S9.out.2.1.ne S9.out.1 (by decide)), below_stored S9.out.2.2 hg10 S9.out.2.2.size HBb.out⟩; clear x10 hg10 hs10 l9 c0 c1 S9))
              | fail)
            go_roundw
            case rel => exact ⟨k + 1, by omega, by go_num, S10.out.1, S10.out.2.1, S10.out.2.2, HAk.out⟩
            case measure => simp [intOf]; omega
          · have HR0 := Lib.hid (HNo.out (HNi.out fun h => hix h.2.2))
            have e1 : (er != 0) = false := by simp [he]
            have e2 : (lf.gen != gen) = false := by simp [hg]
            have e3 : (lf.index != (k : Int)) = true := by simp [hix]
            clear he hg hix
            go_wp2_with (first
              | ((with_reducible refine wpList_lf_alloc (o := ⟨some 11, .alloc _, _, _, _, _⟩) rfl rfl ?_); intro w8 x8 hB8 hs8; clear hs8)
              | ((with_reducible refine wpList_lf_store (o := ⟨none, .store 86 (.tmp 11) _, _, _, _, _⟩) rfl _ _ rfl w7.heap.size lf Leaf.lf0 HLi.out Leaf.lf0_in rfl rfl x8 ?_); go_loud (intro w9 x9 hg9 hs9; have K9 := below_stored hB8 hg9 hB8.size (Nat.le_refl _); have S9 := Lib.hid (And.intro (S7.out.1.on K9) (And.intro (S7.out.2.1.on K9) (bthen S7.out.2.2 K9))); have l9 := big_load0 Tryz.prog w7.heap.size 0 (lcs lf) ml (by rw [lcs_length HLi.out, HM.out.2]) _ x9.range0; obtain ⟨c0, c1⟩ := x9.lf; clear hB8 x8 hg9 hs9 S7 x9 K9; generalize w7.heap.size = bv at *))
              | fail)
            go_ret2
            exact ⟨TbPost.no HR0.out rfl, S9.out.2.2⟩
        · have HR0 := Lib.hid (HNo.out (HNi.out fun h => hg h.2.1))
          have e1 : (er != 0) = false := by simp [he]
          have e2 : (lf.gen != gen) = true := by simp [hg]
          clear he hg
          go_wp2_with (first
            | ((with_reducible refine wpList_lf_alloc (o := ⟨some 11, .alloc _, _, _, _, _⟩) rfl rfl ?_); intro w8 x8 hB8 hs8; clear hs8)
            | ((with_reducible refine wpList_lf_store (o := ⟨none, .store 86 (.tmp 11) _, _, _, _, _⟩) rfl _ _ rfl w7.heap.size lf Leaf.lf0 HLi.out Leaf.lf0_in rfl rfl x8 ?_); go_loud (intro w9 x9 hg9 hs9; have K9 := below_stored hB8 hg9 hB8.size (Nat.le_refl _); have S9 := Lib.hid (And.intro (S7.out.1.on K9) (And.intro (S7.out.2.1.on K9) (bthen S7.out.2.2 K9))); have l9 := big_load0 Tryz.prog w7.heap.size 0 (lcs lf) ml (by rw [lcs_length HLi.out, HM.out.2]) _ x9.range0; obtain ⟨c0, c1⟩ := x9.lf; clear hB8 x8 hg9 hs9 S7 x9 K9; generalize w7.heap.size = bv at *))
            | fail)
          go_ret2
          exact ⟨TbPost.no HR0.out rfl, S9.out.2.2⟩
      · have HR0 := Lib.hid (HNo.out (HNi.out fun h => he h.1))
        have e1 : (er != 0) = true := by simp [he]
        clear he
        go_wp2_with (first
          | ((with_reducible refine wpList_lf_alloc (o := ⟨some 11, .alloc _, _, _, _, _⟩) rfl rfl ?_); intro w8 x8 hB8 hs8; clear hs8)
          | ((with_reducible refine wpList_lf_store (o := ⟨none, .store 86 (.tmp 11) _, _, _, _, _⟩) rfl _ _ rfl w7.heap.size lf Leaf.lf0 HLi.out Leaf.lf0_in rfl rfl x8 ?_); go_loud (intro w9 x9 hg9 hs9; have K9 := below_stored hB8 hg9 hB8.size (Nat.le_refl _); have S9 := Lib.hid (And.intro (S7.out.1.on K9) (And.intro (S7.out.2.1.on K9) (bthen S7.out.2.2 K9))); have l9 := big_load0 Tryz.prog w7.heap.size 0 (lcs lf) ml (by rw [lcs_length HLi.out, HM.out.2]) _ x9.range0; obtain ⟨c0, c1⟩ := x9.lf; clear hB8 x8 hg9 hs9 S7 x9 K9; generalize w7.heap.size = bv at *))
          | fail)
        go_ret2
        exact ⟨TbPost.no HR0.out rfl, S9.out.2.2⟩
    · obtain rfl : Q = k := by omega
      have HLs : Hid (lfsR gen 0 ps = some (rl ps)) := Lib.hid (lfsR_yes ps 0 fun j p hj => by
        rw [Nat.zero_add]
        exact HS.out.2.2.2 j p (by have h := (List.getElem?_eq_some_iff.1 hj).1; rwa [HQ.out.1] at h) hj)
      have HTb := Lib.hid (tabR_yes (n := n) HLs.out)
      have HX : Hid (Box wr b 86 (lfls (rl ps)) ∧ Box wr w.heap.size 23 (gcl conv soft seq size opn) ∧ Below w.heap.size w wr) := Lib.hid (by
        have h := HS.out
        rw [← HQ.out.1, ← rl_length, lfTo_all] at h
        exact ⟨h.1, h.2.1, h.2.2.1⟩)
      have c0 : wr.cell? ⟨w.heap.size, 0, none⟩ = some (.int .i64 conv) := HX.out.2.1.cell 0
      have c1 : wr.cell? ⟨w.heap.size, 1, none⟩ = some (.int .i64 soft) := HX.out.2.1.cell 1
      have c2 : wr.cell? ⟨w.heap.size, 2, none⟩ = some (.int .i64 seq) := HX.out.2.1.cell 2
      have c3 : wr.cell? ⟨w.heap.size, 3, none⟩ = some (.int .i64 size) := HX.out.2.1.cell 3
      have c4 : wr.cell? ⟨w.heap.size, 4, none⟩ = some (.int .i64 opn) := HX.out.2.1.cell 4
      clear HS
      go_wp2_with fail
      refine (HBk.out wr).mono ?_
      rintro e w4 ⟨rfl, hb4⟩
      have X4 := Lib.hid (And.intro (HX.out.1.on hb4) (bthen HX.out.2.2 hb4))
      clear hb4 HX c0 c1 c2 c3 c4
      have HRd : Hid (Rd w4 w4.heap.size (some ⟨b, 0, none⟩) (lfls (rl ps))) := Lib.hid (X4.out.1.rd X4.out.1.lt)
      have HOf := Lib.hid (tof_any n (some ⟨b, 0, none⟩) Q (rl ps) w4 HN.out (rl_in ps) (by rw [rl_length, HQ.out.1]; have := HQ.out.2; omega) HRd.out)
      rw [rl_length, HQ.out.1] at HOf
      go_wp2_with fail
      refine HOf.out.mono ?_
      rintro e w5 ⟨hpost, hb5⟩
      have HB5 := Lib.hid (bthen X4.out.2 hb5)
      have HS4 := Lib.hid X4.out.2.size
      clear hb5 X4 HRd HOf
      cases hR : Tbl.ofT n (rl ps) with
      | none =>
        rw [hR] at hpost HTb
        unfold OfPost at hpost
        subst hpost
        clear hR
        go_wp2
        go_ret2
        exact ⟨TbPost.no HTb.out rfl, HB5.out⟩
      | some ys =>
        rw [hR] at hpost HTb
        unfold OfPost at hpost
        obtain ⟨d, g, h, rfl, ht, h1, h2, h3⟩ := hpost
        have HT := Lib.hid (And.intro ht (And.intro h1 (And.intro h2 h3)))
        clear ht h1 h2 h3 hR
        go_wp2
        go_ret2
        exact ⟨TbPost.yes HTb.out rfl HT.out.1 (Nat.le_trans HS4.out HT.out.2.1) (Nat.le_trans HS4.out HT.out.2.2.1) (Nat.le_trans HS4.out HT.out.2.2.2), HB5.out⟩
end Go.Proofs.YtgnpohkippegpaaGreat

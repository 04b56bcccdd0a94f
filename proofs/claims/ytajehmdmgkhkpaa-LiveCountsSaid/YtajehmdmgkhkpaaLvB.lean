/-
  Package live: the live sectors in memory; New, has, Block, Count.
-/
import Derived.Test.YtajehmdmgkhkpaaLvM
import Derived.Test.YtajehmdmgkhkpaaMapsI
import Derived.Test.YtajehmdmgkhkpaaGeomD
import Derived.Test.YtajehmdmgkhkpaaBig
import Derived.Maps.RangeWalk
namespace Go.Proofs.Ytajehmdmgkhkpaa
open Go.RowKit Geom Lv
set_option linter.unusedVariables false

abbrev vcs (conv soft seq size opn : Int) (b c : Nat) : List Value := [.int .i64 conv, .int .i64 soft, .int .i64 seq, .int .i64 size, .int .i64 opn, .map (some b), .map (some c)]
abbrev lvp (d : Nat) : Value := .pointer (some ⟨d, 0, none⟩)
def bmp (conv seq size : Int) (l : List (Int × Int)) : Int × Int → Option Value := fun a => (pv conv seq size l a).map (Value.int .i64)
/-- block d is the live sectors that the list l tells: the blocks in map b, the counts in map c -/
structure LvIs (w : World) (d b c m : Nat) (conv soft seq size opn : Int) (l : List (Int × Int)) : Prop where
  bx : Box w d 59 (vcs conv soft seq size opn b c)
  mp : MapIs w b m (bmp conv seq size l)
  ct : ∃ g, MapIi w c m g ∧ ∀ z, (g z).getD (.int .i64 0) = .int .i64 (cn conv seq size l z : Int)
  ne : b ≠ c
  wl : Wl seq size l
  ok : Some conv seq size
  hl : l.length ≤ m
section
variable {w w' : World} {d b c m : Nat} {conv soft seq size opn : Int} {l : List (Int × Int)}
theorem LvIs.same (t : LvIs w d b c m conv soft seq size opn l) (hd : w'.heap[d]? = w.heap[d]?) (hb : w'.heap[b]? = w.heap[b]?) (hc : w'.heap[c]? = w.heap[c]?) : LvIs w' d b c m conv soft seq size opn l := by
  obtain ⟨g, h1, h2⟩ := t.ct
  exact ⟨t.bx.same hd, t.mp.same hb, ⟨g, h1.same hc, h2⟩, t.ne, t.wl, t.ok, t.hl⟩
theorem LvIs.lts (t : LvIs w d b c m conv soft seq size opn l) : d < w.heap.size ∧ b < w.heap.size ∧ c < w.heap.size := by
  obtain ⟨g, h1, h2⟩ := t.ct
  exact ⟨t.bx.lt, t.mp.lt, h1.lt⟩
theorem LvIs.on (t : LvIs w d b c m conv soft seq size opn l) (h : Below w.heap.size w w') : LvIs w' d b c m conv soft seq size opn l := by
  obtain ⟨h1, h2, h3⟩ := t.lts
  exact t.same (h.block _ h1) (h.block _ h2) (h.block _ h3)
theorem LvIs.drew (t : LvIs w d b c m conv soft seq size opn l) : LvIs w.drew d b c m conv soft seq size opn l := t.same rfl rfl rfl
theorem LvIs.drewN (t : LvIs w d b c m conv soft seq size opn l) (q : Nat) : LvIs (w.drewN q) d b c m conv soft seq size opn l := t.same rfl rfl rfl
theorem LvIs.mono {m' : Nat} (t : LvIs w d b c m conv soft seq size opn l) (h : m ≤ m') : LvIs w d b c m' conv soft seq size opn l := by
  obtain ⟨g, h1, h2⟩ := t.ct
  exact ⟨t.bx, t.mp.mono h, ⟨g, h1.mono h, h2⟩, t.ne, t.wl, t.ok, Nat.le_trans t.hl h⟩
theorem LvIs.mem (t : LvIs w d b c m conv soft seq size opn l) : w.cell? ⟨d, 5, none⟩ = some (.map (some b)) ∧ w.cell? ⟨d, 6, none⟩ = some (.map (some c)) := ⟨t.bx.cell 5, t.bx.cell 6⟩
theorem LvIs.geo (t : LvIs w d b c m conv soft seq size opn l) : w.cell? ⟨d, 0, none⟩ = some (.int .i64 conv) ∧ w.cell? ⟨d, 1, none⟩ = some (.int .i64 soft) ∧ w.cell? ⟨d, 2, none⟩ = some (.int .i64 seq) ∧
    w.cell? ⟨d, 3, none⟩ = some (.int .i64 size) ∧ w.cell? ⟨d, 4, none⟩ = some (.int .i64 opn) := ⟨t.bx.cell 0, t.bx.cell 1, t.bx.cell 2, t.bx.cell 3, t.bx.cell 4⟩
theorem MapIs.ne_box {f : Int × Int → Option Value} {T : TypeId} {cs : List Value} (h : MapIs w b m f) (hb : Box w d T cs) : d ≠ b := by
  rintro rfl
  obtain ⟨es, clock, h2⟩ := h.is_map
  unfold Box at hb
  rw [h2] at hb
  cases hb
theorem MapIi.ne_box {f : Int → Option Value} {T : TypeId} {cs : List Value} (h : MapIi w b m f) (hb : Box w d T cs) : d ≠ b := by
  rintro rfl
  obtain ⟨es, clock, h2⟩ := h.is_map
  unfold Box at hb
  rw [h2] at hb
  cases hb
theorem LvIs.apart (t : LvIs w d b c m conv soft seq size opn l) : d ≠ b ∧ d ≠ c ∧ b ≠ c := by
  obtain ⟨g, h1, h2⟩ := t.ct
  exact ⟨t.mp.ne_box t.bx, h1.ne_box t.bx, t.ne⟩
theorem zero_i (w : World) : (zeroValue 3).run Try.prog w = .ok (.int .i64 0) w := by go_simp
theorem LvIs.look (t : LvIs w d b c m conv soft seq size opn l) {a : Int × Int} (h1 : W64 a.1) (h2 : W64 a.2) :
    (Instr.lookup 56 (.map (some b)) (atv a) true).run Try.prog w = .ok (.tuple #[.int .i64 ((pv conv seq size l a).getD 0), .bool (pv conv seq size l a).isSome]) w := by
  rw [t.mp.look_ok Try.underlying56 (zero_i w) h1 h2]
  unfold bmp
  cases pv conv seq size l a <;> rfl
theorem LvIs.many (t : LvIs w d b c m conv soft seq size opn l) {z : Int} (h1 : W64 z) :
    (Instr.lookup 57 (.map (some c)) (ilv z) false).run Try.prog w = .ok (.int .i64 (cn conv seq size l z : Int)) w := by
  obtain ⟨g, h3, h4⟩ := t.ct
  rw [h3.look Try.underlying57 (zero_i w) h1, h4]
end

set_option maxRecDepth 100000 in
theorem lvhas_any {d b c m : Nat} {conv soft seq size opn : Int} {l : List (Int × Int)} (w : World) (a : Int × Int) (h1 : W64 a.1) (h2 : W64 a.2) (t : LvIs w d b c m conv soft seq size opn l) :
    Calls Try.prog 26 #[lvp d, .agg #[.int .i64 a.1, .int .i64 a.2]] w fun e w' => e = .returned (.bool (pv conv seq size l a).isSome) ∧ Below w.heap.size w w' := by
  have hb0 : Below w.heap.size w (w.alloc (.cells #[.int .i64 a.1, .int .i64 a.2] 50)) := (Below.refl _ _).alloc (Nat.le_refl _) _
  have t1 := t.on hb0
  have hbx := LiesAt.new w a.1 a.2 50 (0, 0)
  clear t
  go_enter Try.func26, Try.ntmps26
  go_wp2_with fail
  generalize World.alloc _ _ = w1 at hb0 t1 hbx ⊢
  obtain ⟨a0, a1, _⟩ := hbx
  obtain ⟨c5, c6⟩ := t1.mem
  have hlk : ∀ q : Nat, (Instr.lookup 56 (.map (some b)) (.agg #[.int .i64 a.1, .int .i64 a.2]) true).run Try.prog (w1.drewN q) = .ok (.tuple #[.int .i64 ((pv conv seq size l a).getD 0), .bool (pv conv seq size l a).isSome]) (w1.drewN q) :=
    fun q => (t1.drewN q).look h1 h2
  have HB := Lib.hid hb0
  clear t1 hb0
  go_quiet (fail)
  have hb4 := below_draws HB.out nq
  generalize w1.drewN nq = w4 at hb4 ⊢
  go_wp2
  go_ret
  exact ⟨rfl, hb4⟩
set_option maxRecDepth 100000 in
theorem lvblock_any {d b c m : Nat} {conv soft seq size opn : Int} {l : List (Int × Int)} (w : World) (a : Int × Int) (h1 : W64 a.1) (h2 : W64 a.2) (t : LvIs w d b c m conv soft seq size opn l) :
    Calls Try.prog 19 #[lvp d, .agg #[.int .i64 a.1, .int .i64 a.2]] w fun e w' => e = .returned (.tuple #[.int .i64 ((pv conv seq size l a).getD 0), .bool (pv conv seq size l a).isSome]) ∧ Below w.heap.size w w' := by
  have hb0 : Below w.heap.size w (w.alloc (.cells #[.int .i64 a.1, .int .i64 a.2] 50)) := (Below.refl _ _).alloc (Nat.le_refl _) _
  have t1 := t.on hb0
  have hbx := LiesAt.new w a.1 a.2 50 (0, 0)
  clear t
  go_enter Try.func19, Try.ntmps19
  go_wp2_with fail
  generalize World.alloc _ _ = w1 at hb0 t1 hbx ⊢
  obtain ⟨a0, a1, _⟩ := hbx
  obtain ⟨c5, c6⟩ := t1.mem
  have hlk : ∀ q : Nat, (Instr.lookup 56 (.map (some b)) (.agg #[.int .i64 a.1, .int .i64 a.2]) true).run Try.prog (w1.drewN q) = .ok (.tuple #[.int .i64 ((pv conv seq size l a).getD 0), .bool (pv conv seq size l a).isSome]) (w1.drewN q) :=
    fun q => (t1.drewN q).look h1 h2
  have HB := Lib.hid hb0
  clear t1 hb0
  go_quiet (fail)
  have hb4 := below_draws HB.out nq
  generalize w1.drewN nq = w4 at hb4 ⊢
  go_wp2
  go_ret2
  exact ⟨rfl, hb4⟩
set_option maxRecDepth 100000 in
theorem lvcount_any {d b c m : Nat} {conv soft seq size opn : Int} {l : List (Int × Int)} (w : World) (z : Int) (h1 : W64 z) (t : LvIs w d b c m conv soft seq size opn l) :
    Calls Try.prog 17 #[lvp d, .int .i64 z] w fun e w' => e = .returned (.int .i64 (cn conv seq size l z : Int)) ∧ w = w' := by
  obtain ⟨c5, c6⟩ := t.mem
  have hlk := t.many h1
  clear t
  go_enter Try.func17, Try.ntmps17
  go_wp2
  go_ret
  exact ⟨rfl, rfl⟩
theorem bmp_nil (conv seq size : Int) : bmp conv seq size [] = fun _ => none := by
  funext a
  unfold bmp pv lk
  split <;> rfl
theorem lvnew_fin (conv soft seq size opn : Int) (w : World) (H : Some conv seq size) (o : Obj) (ho : o = .cells (vcs conv soft seq size opn w.heap.size (w.heap.size + 1)).toArray 59 (0, 0)) :
    LvIs (((w.alloc (.map #[] 0)).alloc (.map #[] 0)).alloc o) (w.heap.size + 1 + 1) w.heap.size (w.heap.size + 1) 0 conv soft seq size opn [] ∧ Below w.heap.size w (((w.alloc (.map #[] 0)).alloc (.map #[] 0)).alloc o) := by
  subst ho
  have hB : Below w.heap.size w (((w.alloc (.map #[] 0)).alloc (.map #[] 0)).alloc (.cells (vcs conv soft seq size opn w.heap.size (w.heap.size + 1)).toArray 59 (0, 0))) :=
    (((Below.refl _ _).alloc (Nat.le_refl _) _).alloc (by simp) _).alloc (by simp; omega) _
  have h1 : (w.alloc (.map #[] 0)).heap.size = w.heap.size + 1 := by simp
  have h2 : ((w.alloc (.map #[] 0)).alloc (.map #[] 0)).heap.size = w.heap.size + 1 + 1 := by simp
  have hm1 := MapIs.made w
  have hm2 := MapIi.made (w.alloc (.map #[] 0))
  rw [h1] at hm2
  refine ⟨⟨?_, ?_, ⟨fun _ => none, ?_, fun z => rfl⟩, by omega, Wl.nil, H, Nat.le_refl _⟩, hB⟩
  · have := Box.new ((w.alloc (.map #[] 0)).alloc (.map #[] 0)) 59 (vcs conv soft seq size opn w.heap.size (w.heap.size + 1))
    rw [h2] at this
    exact this
  · rw [bmp_nil]
    exact hm1.same ((Below.heap_alloc _ _ _ (by omega)).trans (Below.heap_alloc _ _ _ (by omega)))
  · exact hm2.same (Below.heap_alloc _ _ _ (by omega))
set_option maxRecDepth 100000 in
theorem lvnew_any (conv soft seq size opn : Int) (w : World) (H : Ok conv soft seq size opn) :
    Calls Try.prog 11 #[.agg #[.int .i64 conv, .int .i64 soft, .int .i64 seq, .int .i64 size, .int .i64 opn]] w fun e w' => ∃ d b c, e = .returned (lvp d) ∧ LvIs w' d b c 0 conv soft seq size opn [] ∧ w.heap.size ≤ d ∧ w.heap.size ≤ b ∧ w.heap.size ≤ c ∧ Below w.heap.size w w' := by
  have hbox := Lies.new w conv soft seq size opn 23 (0, 0)
  have hb0 : Below w.heap.size w (w.alloc (.cells #[.int .i64 conv, .int .i64 soft, .int .i64 seq, .int .i64 size, .int .i64 opn] 23)) := (Below.refl _ _).alloc (Nat.le_refl _) _
  have HR := Lib.hid fun w => right_any conv soft seq size opn w (by have := H.some; obtain ⟨q1, q2, q3, q4, q5⟩ := this; omega)
  rw [ok_yes H] at HR
  have HS := Lib.hid H.some
  have hmm := @run_makeMap Try.prog
  clear H
  go_enter Try.func11, Try.ntmps11
  go_wp2_with fail
  generalize World.alloc _ _ = w0 at hbox hb0 ⊢
  refine (HR.out _).mono ?_
  rintro e w1 ⟨rfl, hb1⟩
  have hl1 := hbox.below hb1
  have hbb1 := Lib.hid (bthen hb0 hb1)
  clear hbox hb0 hb1
  obtain ⟨c0, c1, c2, c3, c4, hlt⟩ := hl1
  have HLT := Lib.hid hlt
  clear hlt
  go_wp2
  go_ret
  obtain ⟨h1, h2⟩ := lvnew_fin conv soft seq size opn w1 HS.out _ rfl
  have hs := hbb1.out.size
  exact ⟨_, _, _, rfl, h1, by omega, by omega, by omega, hbb1.out.trans (h2.mono hs)⟩
end Go.Proofs.Ytajehmdmgkhkpaa

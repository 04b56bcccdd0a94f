/-
  ScD DevRb
-/
import Derived.Test.YthgjlofebicpiaaMg06
import Derived.Test.YthgjlofebicpiaaMg15
import Derived.Test.YthgjlofebicpiaaMg35
import Derived.Test.YthgjlofebicpiaaMg32
/-
  Package scan: plain mathematics of the device: the places below the zones' pointers, what is found there; records laid on a device; what a crash leaves.
-/
namespace Go.Proofs.Ythgjlofebicpiaa
open Go.RowKit Geom Zone Dev Word Rec Scan
set_option linter.unusedVariables false

namespace Scan
/-- a zone's pointer -/
def ptr (D : Dv) (z : Nat) : Nat := (zat D.L z).2.toNat
/-- the first sectors of a zone -/
def zrow (z n : Nat) : List Pl := (List.range n).map fun o : Nat => ((z : Int), (o : Int))
theorem zrow_zero (z : Nat) : zrow z 0 = [] := rfl
theorem zrow_succ (z n : Nat) : zrow z (n + 1) = zrow z n ++ [((z : Int), (n : Int))] := by simp [zrow, List.range_succ]
/-- the sectors of the first zones below the pointers -/
def plsTo (D : Dv) : Nat → List Pl
  | 0 => []
  | z + 1 => plsTo D z ++ zrow z (ptr D z)
theorem zrow_mem {z n : Nat} {a : Pl} : a ∈ zrow z n ↔ ∃ o : Nat, o < n ∧ a = ((z : Int), (o : Int)) := by
  unfold zrow
  rw [List.mem_map]
  constructor
  · rintro ⟨o, h, rfl⟩; exact ⟨o, List.mem_range.1 h, rfl⟩
  · rintro ⟨o, h, rfl⟩; exact ⟨o, List.mem_range.2 h, rfl⟩
theorem pls_mem {D : Dv} {a : Pl} : ∀ {n : Nat}, a ∈ plsTo D n ↔ ∃ z o : Nat, z < n ∧ o < ptr D z ∧ a = ((z : Int), (o : Int))
  | 0 => by simp [plsTo]
  | n + 1 => by
    show a ∈ plsTo D n ++ zrow n (ptr D n) ↔ _
    rw [List.mem_append, pls_mem (n := n), zrow_mem]
    constructor
    · rintro (⟨z, o, h1, h2, rfl⟩ | ⟨o, h, rfl⟩)
      · exact ⟨z, o, by omega, h2, rfl⟩
      · exact ⟨n, o, by omega, h, rfl⟩
    · rintro ⟨z, o, h1, h2, rfl⟩
      by_cases e : z = n
      · subst e; exact .inr ⟨o, h2, rfl⟩
      · exact .inl ⟨z, o, by omega, h2, rfl⟩
/-- one sector behind another -/
def Ahead (a b : Pl) : Prop := a.1 < b.1 ∨ (a.1 = b.1 ∧ a.2 < b.2)
theorem zrow_rise (z : Nat) : ∀ n : Nat, (zrow z n).Pairwise Ahead
  | 0 => List.Pairwise.nil
  | n + 1 => by
    rw [zrow_succ]
    refine List.pairwise_append.2 ⟨zrow_rise z n, by simp, fun a ha b hb => ?_⟩
    obtain ⟨o, ho, rfl⟩ := zrow_mem.1 ha
    rw [List.mem_singleton.1 hb]
    exact .inr ⟨rfl, by show (o : Int) < (n : Int); omega⟩
theorem row_ahead {D : Dv} {z o : Nat} {a : Pl} (h : a ∈ plsTo D z ++ zrow z o) : Ahead a ((z : Int), (o : Int)) := by
  rcases List.mem_append.1 h with h | h
  · obtain ⟨y, q, h1, _, rfl⟩ := pls_mem.1 h
    exact .inl (by show (y : Int) < (z : Int); omega)
  · obtain ⟨q, h1, rfl⟩ := zrow_mem.1 h
    exact .inr ⟨rfl, by show (q : Int) < (o : Int); omega⟩
theorem pls_rise (D : Dv) : ∀ n : Nat, (plsTo D n).Pairwise Ahead
  | 0 => List.Pairwise.nil
  | n + 1 => by
    refine List.pairwise_append.2 ⟨pls_rise D n, zrow_rise n _, fun a ha b hb => ?_⟩
    obtain ⟨y, q, h1, _, rfl⟩ := pls_mem.1 ha
    obtain ⟨o, _, rfl⟩ := zrow_mem.1 hb
    exact .inl (by show (y : Int) < (n : Int); omega)

/-- what is found at a place -/
def fnd (D : Dv) (epoch seq : Int) (a : Pl) : Option Fo :=
  if (readS (pageD D a)).2 = 0 ∧ (readS (pageD D a)).1.epoch = epoch ∧ seq < (readS (pageD D a)).1.seq then some ⟨num D.conv D.seq D.size a.1 a.2, (readS (pageD D a)).1⟩ else none
theorem fnd_some {D : Dv} {epoch seq : Int} {a : Pl} {x : Fo} : fnd D epoch seq a = some x ↔ ((readS (pageD D a)).2 = 0 ∧ (readS (pageD D a)).1.epoch = epoch ∧ seq < (readS (pageD D a)).1.seq) ∧ x = ⟨num D.conv D.seq D.size a.1 a.2, (readS (pageD D a)).1⟩ := by
  unfold fnd
  split
  · rename_i h
    constructor
    · intro e; injection e with e; exact ⟨h, e.symm⟩
    · rintro ⟨_, rfl⟩; rfl
  · rename_i h
    constructor
    · intro e; cases e
    · rintro ⟨h2, _⟩; exact absurd h2 h
def foundD (D : Dv) (epoch seq : Int) : List Fo := (plsTo D D.n).filterMap (fnd D epoch seq)
theorem found_mem {D : Dv} {epoch seq : Int} {x : Fo} : x ∈ foundD D epoch seq ↔ ∃ z o : Nat, z < D.n ∧ o < ptr D z ∧ fnd D epoch seq ((z : Int), (o : Int)) = some x := by
  unfold foundD
  rw [List.mem_filterMap]
  constructor
  · rintro ⟨a, h, e⟩
    obtain ⟨z, o, h1, h2, rfl⟩ := pls_mem.1 h
    exact ⟨z, o, h1, h2, e⟩
  · rintro ⟨z, o, h1, h2, e⟩
    exact ⟨_, pls_mem.2 ⟨z, o, h1, h2, rfl⟩, e⟩
theorem fnd_in {D : Dv} (hO : DvOk D) (ho : Od D) {epoch seq : Int} {a : Pl} {x : Fo} (h : fnd D epoch seq a = some x) : FIn x := by
  obtain ⟨_, rfl⟩ := fnd_some.1 h
  exact read_in (page_len hO a) (page_oct hO ho a)
theorem found_in {D : Dv} (hO : DvOk D) (ho : Od D) {epoch seq : Int} {l : List Pl} : ∀ x ∈ l.filterMap (fnd D epoch seq), FIn x := fun x hx => by
  obtain ⟨a, _, h⟩ := List.mem_filterMap.1 hx
  exact fnd_in hO ho h
/-- a sector below a pointer: where it lies, and that it is read -/
theorem ptr_seat {D : Dv} (hO : DvOk D) {z o : Nat} (hz : z < D.n) (ho : o < ptr D z) : Seat D.conv D.seq D.size z o ∧ (o : Int) < (zat D.L z).2 := by
  have hn := hO.ns
  have hc := hO.ok.1
  have hs := hO.ok.2.1
  have hL := hO.fit.1
  have hg : D.L[z]? = some (D.L.getD z (0, 0)) := getD_of (by omega)
  have hf := hO.fit.2.2 z (by omega)
  have hq : zat D.L (z : Int) = D.L.getD z (0, 0) := rfl
  unfold ptr at ho
  rw [hq] at ho ⊢
  generalize D.L.getD z (0, 0) = y at *
  have h8 := hO.ok.2.2.2.1
  unfold fitZ at hf
  have hoy : (o : Int) < y.2 := by omega
  refine ⟨?_, hoy⟩
  rcases hf with ⟨h1, h2, h3⟩ | ⟨h1, h2⟩
  · omega
  · refine ⟨h1, by omega, by omega, ?_⟩
    rcases h2 with ⟨_, h2⟩ | ⟨_, h2, h3⟩ | ⟨_, h2, h3⟩ | ⟨_, h2, h3⟩ <;> omega
theorem ptr_read {D : Dv} (hO : DvOk D) (hd : D.down = false) {z o : Nat} (hz : z < D.n) (ho : o < ptr D z) : readD D ((z : Int), (o : Int)) = (pageD D ((z : Int), (o : Int)), 0, D) := by
  obtain ⟨hs, hp⟩ := ptr_seat hO hz ho
  exact read_ok hO hd hs.1 hs.2.1 (by omega) hp
theorem ptr_readE {D : Dv} (hO : DvOk D) (hd : D.down = false) {z o : Nat} (hz : z < D.n) (ho : o < ptr D z) : readE D.conv D.soft D.seq D.size D.L z o = 0 := by
  have h := ptr_read hO hd hz ho
  unfold readD at h
  rw [if_neg (by simp [hd])] at h
  by_cases e : readE D.conv D.soft D.seq D.size D.L z o = 0
  · exact e
  · rw [if_pos e] at h
    exact (Prod.mk.inj (Prod.mk.inj h).2).1
theorem ptr_le {D : Dv} (hO : DvOk D) {z : Nat} (hz : z < D.n) : ptr D z ≤ 256 := by
  have h := hO.ok.2.2.2.2.1
  rcases Nat.eq_zero_or_pos (ptr D z) with h0 | h0
  · omega
  · have hs := (ptr_seat hO hz (o := ptr D z - 1) (by omega)).1
    have := hs.2.2.2
    omega
theorem pls_length {D : Dv} (hO : DvOk D) : ∀ {n : Nat}, n ≤ D.n → (plsTo D n).length ≤ n * 256
  | 0, _ => Nat.le_refl _
  | n + 1, h => by
    have h1 := pls_length hO (n := n) (by omega)
    have h2 := ptr_le hO (z := n) (by omega)
    show (plsTo D n ++ zrow n (ptr D n)).length ≤ _
    rw [List.length_append, show (zrow n (ptr D n)).length = ptr D n by simp [zrow]]
    omega
theorem dv_n {D : Dv} (hO : DvOk D) : D.n ≤ 64 := by
  have := hO.ok.2.2.1
  have := hO.ns
  omega
theorem row_count {D : Dv} (hO : DvOk D) {z o : Nat} {epoch seq : Int} (hz : z < D.n) (ho : o ≤ ptr D z) : ((plsTo D z ++ zrow z o).filterMap (fnd D epoch seq)).length ≤ 20000 := by
  refine Nat.le_trans (List.length_filterMap_le _ _) ?_
  rw [List.length_append, show (zrow z o).length = o by simp [zrow]]
  have h1 := pls_length hO (n := z) (by omega)
  have h2 := ptr_le hO hz
  have h3 := dv_n hO
  omega
theorem pls_count {D : Dv} (hO : DvOk D) {z : Nat} {epoch seq : Int} (hz : z ≤ D.n) : ((plsTo D z).filterMap (fnd D epoch seq)).length ≤ 20000 := by
  refine Nat.le_trans (List.length_filterMap_le _ _) ?_
  have h1 := pls_length hO hz
  have h3 := dv_n hO
  omega
theorem num_rise {D : Dv} (hO : DvOk D) {a b : Pl} (ha : Seat D.conv D.seq D.size a.1 a.2) (hb : Seat D.conv D.seq D.size b.1 b.2) (h : Ahead a b) : num D.conv D.seq D.size a.1 a.2 < num D.conv D.seq D.size b.1 b.2 := by
  unfold Geom.num
  rw [if_pos ha, if_pos hb]
  have h8 := hO.ok.2.2.2.1
  rcases h with h | ⟨h, h2⟩
  · have := Int.mul_le_mul_of_nonneg_right (show a.1 - D.conv + 1 ≤ b.1 - D.conv by omega) (show 0 ≤ D.size by omega)
    rw [Int.add_mul, Int.one_mul] at this
    have h3 := ha.2.2.2
    have h4 := hb.2.2.1
    omega
  · rw [h]
    omega
/-- the places of what is found rise -/
theorem found_rise {D : Dv} (hO : DvOk D) (epoch seq : Int) : (foundD D epoch seq).Pairwise fun x y => x.pl < y.pl := by
  unfold foundD
  refine List.Pairwise.filterMap (R := fun a b => Ahead a b ∧ Seat D.conv D.seq D.size a.1 a.2 ∧ Seat D.conv D.seq D.size b.1 b.2) _ (fun a b hab x hx y hy => ?_) ?_
  · obtain ⟨_, rfl⟩ := fnd_some.1 hx
    obtain ⟨_, rfl⟩ := fnd_some.1 hy
    exact num_rise hO hab.2.1 hab.2.2 hab.1
  · refine List.Pairwise.imp_of_mem (fun {a b} ha hb hab => ⟨hab, ?_, ?_⟩) (pls_rise D D.n)
    · obtain ⟨z, o, h1, h2, rfl⟩ := pls_mem.1 ha
      exact (ptr_seat hO h1 h2).1
    · obtain ⟨z, o, h1, h2, rfl⟩ := pls_mem.1 hb
      exact (ptr_seat hO h1 h2).1
theorem row_below {D : Dv} (hO : DvOk D) {epoch seq : Int} {z o : Nat} (hz : z < D.n) (ho : o < ptr D z) : ∀ x ∈ (plsTo D z ++ zrow z o).filterMap (fnd D epoch seq), x.pl < num D.conv D.seq D.size z o := fun x hx => by
  obtain ⟨a, ha, hf⟩ := List.mem_filterMap.1 hx
  obtain ⟨_, rfl⟩ := fnd_some.1 hf
  refine num_rise hO ?_ (ptr_seat hO hz ho).1 (row_ahead ha)
  rcases List.mem_append.1 ha with h | h
  · obtain ⟨y, q, h1, h2, rfl⟩ := pls_mem.1 h
    exact (ptr_seat hO (by omega) h2).1
  · obtain ⟨q, h1, rfl⟩ := zrow_mem.1 h
    exact (ptr_seat hO hz (by omega)).1
theorem row_snoc {D : Dv} {epoch seq : Int} {z o : Nat} : (plsTo D z ++ zrow z (o + 1)).filterMap (fnd D epoch seq) = (plsTo D z ++ zrow z o).filterMap (fnd D epoch seq) ++ (fnd D epoch seq ((z : Int), (o : Int))).toList := by
  rw [zrow_succ, ← List.append_assoc, List.filterMap_append (l' := [_])]
  cases h : fnd D epoch seq ((z : Int), (o : Int)) <;> simp [h]

/-! records laid on a device -/
structure St where
  zone : Int
  r : Rc
  junk : Bool
def StIn (x : St) : Prop := 0 ≤ x.zone ∧ x.zone < 256 ∧ R64 x.r ∧ In x.r
def pageOf (x : St) : List Int := if x.junk = true then z64 else layA x.r
theorem pageOf_length {x : St} (h : StIn x) : (pageOf x).length = 64 := by unfold pageOf; split; rfl; exact layA_length h.2.2.2
theorem pageOf_octets {x : St} (h : StIn x) : octets (pageOf x) := by unfold pageOf; split; exact z64_oct; exact layA_octets h.2.2.2
def zoneOf (D : Dv) (x : St) : Int := D.conv + x.zone % D.seq
def stepD (D : Dv) (x : St) : Dv := (writeD D (zoneOf D x, (zat D.L (zoneOf D x)).2, pageOf x)).2
def layD (D : Dv) (l : List St) : Dv := l.foldl stepD D
theorem layD_snoc (D : Dv) (l : List St) (x : St) : layD D (l ++ [x]) = stepD (layD D l) x := by simp [layD]
/-- a measure -/
def Meas (conv soft seq size opn : Int) (n : Nat) (D : Dv) : Prop := D.conv = conv ∧ D.soft = soft ∧ D.seq = seq ∧ D.size = size ∧ D.opn = opn ∧ D.n = n
/-- a device that nothing is wrong with -/
structure DUp (k : Nat) (D : Dv) : Prop where
  ok : DvN k D
  od : Od D
  up : D.down = false
  arm : D.armed = 0
theorem write_meas {conv soft seq size opn : Int} {n : Nat} {D : Dv} (c : Wr) (h : Meas conv soft seq size opn n D) : Meas conv soft seq size opn n (writeD D c).2 := by
  unfold writeD
  split
  · exact h
  · split
    · exact h
    · unfold tick
      split <;> exact h
theorem write_up {k : Nat} {D : Dv} {c : Wr} (h : DUp k D) (hc : c.2.2.length = 64) (ho : octets c.2.2) (hk : k ≤ 500) : DUp (k + 1) (writeD D c).2 := by
  refine ⟨write_ok c hc h.ok hk, od_write h.od ho, ?_, ?_⟩
  · unfold writeD
    rw [if_neg (by simp [h.up])]
    split
    · exact h.up
    · show (tick { D with L := _, cache := _ }).down = false
      rw [tick_up (show ({ D with L := (writeL D.conv D.soft D.seq D.size D.opn D.L c.1 c.2.1).1, cache := D.cache ++ [c] } : Dv).armed = 0 from h.arm)]
      exact h.up
  · unfold writeD
    rw [if_neg (by simp [h.up])]
    split
    · exact h.arm
    · show (tick { D with L := _, cache := _ }).armed = 0
      rw [tick_up (show ({ D with L := (writeL D.conv D.soft D.seq D.size D.opn D.L c.1 c.2.1).1, cache := D.cache ++ [c] } : Dv).armed = 0 from h.arm)]
      exact h.arm
theorem lay_up : ∀ (l : List St) {k : Nat} {D : Dv}, DUp k D → (∀ x ∈ l, StIn x) → k + l.length ≤ 500 → DUp (k + l.length) (layD D l)
  | [], k, D, h, _, _ => h
  | x :: l, k, D, h, hl, hk => by
    have h1 : DUp (k + 1) (stepD D x) := write_up h (pageOf_length (hl x List.mem_cons_self)) (pageOf_octets (hl x List.mem_cons_self)) (by simp at hk; omega)
    have h2 := lay_up l h1 (fun y hy => hl y (List.mem_cons_of_mem _ hy)) (by simp at hk; omega)
    have e : k + (x :: l).length = k + 1 + l.length := by simp; omega
    rw [e]
    exact h2
theorem lay_meas {conv soft seq size opn : Int} {n : Nat} : ∀ (l : List St) {D : Dv}, Meas conv soft seq size opn n D → Meas conv soft seq size opn n (layD D l)
  | [], D, h => h
  | x :: l, D, h => lay_meas l (write_meas _ h)
theorem up_new {conv soft seq size opn : Int} {n : Nat} (h : Geom.Ok conv soft seq size opn) (hn : (n : Int) = conv + seq) : DUp 0 (newD conv soft seq size opn n) ∧ Meas conv soft seq size opn n (newD conv soft seq size opn n) :=
  ⟨⟨new_ok h hn, od_new _ _ _ _ _ _, rfl, rfl⟩, rfl, rfl, rfl, rfl, rfl, rfl⟩
/-- where the next record goes -/
theorem zone_in {k : Nat} {D : Dv} (h : DUp k D) {x : St} (hx : StIn x) : D.conv ≤ zoneOf D x ∧ zoneOf D x < D.conv + D.seq := by
  have h6 := h.ok.ok.ok.2.1
  have h1 := Int.emod_nonneg x.zone (show D.seq ≠ 0 by omega)
  have h2 := Int.emod_lt_of_pos x.zone (show 0 < D.seq by omega)
  unfold zoneOf
  omega
end Scan
end Go.Proofs.Ythgjlofebicpiaa

/-
  A sector that can be read is read: memory is made alone, nothing else turns.
-/
namespace Go.Proofs.Ythgjlofebicpiaa
open Go.RowKit Geom Zone Dev
set_option linter.unusedVariables false

section
variable {w : World} {d : Nat} {T : Nat → Prop} {D : Dv}
set_option maxRecDepth 100000 in
set_option maxHeartbeats 4000000 in
theorem readok_any (a : Pl) (h64 : W64 a.1 ∧ W64 a.2) (hO : DvOk D) (hI : DevIs T w d D) (hdn : D.down = false) (hre : readE D.conv D.soft D.seq D.size D.L a.1 a.2 = 0) :
    Calls Try.prog 29 #[dp d, .agg #[.int .i64 a.1, .int .i64 a.2]] w fun x w' => x = .returned (.tuple #[.agg (bs (pageD D a)).toArray, .int .i64 0]) ∧ Below w.heap.size w w' := by
  obtain ⟨w1, hw1⟩ : ∃ w1, w1 = (w.alloc (.cells #[.int .i64 a.1, .int .i64 a.2] 68)).alloc (.cells zlit 62) := ⟨_, rfl⟩
  have hB1 : Below w.heap.size w w1 := by rw [hw1]; exact ((Below.refl _ _).alloc (Nat.le_refl _) _).alloc (by simp) _
  have hz1 : w1.heap.size = w.heap.size + 2 := by rw [hw1]; simp
  have x0 : Box w1 w.heap.size 68 [.int .i64 a.1, .int .i64 a.2] := by
    rw [hw1]; exact (Box.new w _ [.int .i64 a.1, .int .i64 a.2]).same (Below.heap_alloc _ _ _ (by simp))
  have x1 : Box w1 (w.heap.size + 1) 62 (bs z64) := by
    have := Box.new (w.alloc (.cells #[.int .i64 a.1, .int .i64 a.2] 68)) 62 (bs z64)
    rw [show (w.alloc (.cells #[.int .i64 a.1, .int .i64 a.2] 68)).heap.size = w.heap.size + 1 by simp] at this
    rw [hw1, zlit_eq]
    exact this
  have hI1 := hI.below hB1
  have hdl := hI.lt
  obtain ⟨gz, cz, lb, cv, nb, hD, hown, hcv, hm, hmn, t⟩ := id hI1
  have hfl := hO.fit.1
  have hns := hO.ns
  have hLl : D.L.length = D.n := by omega
  have HZ := Lib.hid fun w' (hb : Below w1.heap.size w1 w') => zread_any D.conv D.soft D.seq D.size D.opn a.1 a.2 (some ⟨gz, 0, none⟩) D.n cz D.L w' hLl hO.ok.some hns (((Rd.own hown).below hb).more hb.size)
  have hSO : ∀ w', Below w1.heap.size w1 w' → w'.cell? ⟨d, 0, none⟩ = some (.int .i64 D.conv) ∧ w'.cell? ⟨d, 1, none⟩ = some (.int .i64 D.soft) ∧ w'.cell? ⟨d, 2, none⟩ = some (.int .i64 D.seq) ∧ w'.cell? ⟨d, 3, none⟩ = some (.int .i64 D.size) ∧ w'.cell? ⟨d, 4, none⟩ = some (.int .i64 D.opn) ∧
      w'.cell? ⟨d, 5, none⟩ = some (.slice (some ⟨gz, 0, none⟩) D.n cz) ∧ w'.cell? ⟨w.heap.size, 0, none⟩ = some (.int .i64 a.1) ∧ w'.cell? ⟨w.heap.size, 1, none⟩ = some (.int .i64 a.2) := by
    intro w' hb
    have hDw := hD.same (hb.block _ hD.lt)
    obtain ⟨g0, g1, g2, g3, g4⟩ := hDw.geo
    exact ⟨g0, g1, g2, g3, g4, hDw.mem.1, (x0.same (hb.block _ x0.lt)).cell 0, (x0.same (hb.block _ x0.lt)).cell 1⟩
  have HR := Lib.hid fun (w2 : World) (hb : Below w1.heap.size w1 w2) => show Calls Try.prog 54 #[dp d, .int .i64 0] w2 (fun x w' => x = .returned (.int .i64 0) ∧ DevIs T w' d D ∧ Below w.heap.size w w' ∧ Box w' w.heap.size 68 [.int .i64 a.1, .int .i64 a.2] ∧ Box w' (w.heap.size + 1) 62 (bs z64) ∧ (w'.cell? ⟨d, 0, none⟩ = some (.int .i64 D.conv) ∧ w'.cell? ⟨d, 1, none⟩ = some (.int .i64 D.soft) ∧ w'.cell? ⟨d, 2, none⟩ = some (.int .i64 D.seq) ∧ w'.cell? ⟨d, 3, none⟩ = some (.int .i64 D.size) ∧ w'.cell? ⟨d, 4, none⟩ = some (.int .i64 D.opn) ∧
      w'.cell? ⟨d, 5, none⟩ = some (.slice (some ⟨gz, 0, none⟩) D.n cz) ∧ w'.cell? ⟨w.heap.size, 0, none⟩ = some (.int .i64 a.1) ∧ w'.cell? ⟨w.heap.size, 1, none⟩ = some (.int .i64 a.2))) from by
    have hS2 := hSO w2 hb
    have hI2 := hI1.below hb
    have hF2 : Below w.heap.size w w2 := bthen hB1 hb
    have y0 := x0.same (hb.block _ x0.lt)
    have y1 := x1.same (hb.block _ x1.lt)
    have hD2 := hD.same (hb.block _ hD.lt)
    rw [hdn] at hD2
    exact (refusal_ok hD2).mono fun e w' ⟨h1, h2⟩ => ⟨h1, h2 ▸ hI2, h2 ▸ hF2, h2 ▸ y0, h2 ▸ y1, h2 ▸ hS2⟩
  have SO := Lib.hid hSO
  rw [hre] at HZ
  clear hSO hdn hre hI hI1 hD hown hcv hm hmn t hfl hns hLl x0 x1 hB1
  go_enter Try.func29, Try.ntmps29
  go_wp2_with fail
  rw [← hw1]
  clear hw1
  apply wp_meetW (fun w' => DevIs T w' d D ∧ Below w.heap.size w w' ∧ Box w' w.heap.size 68 [.int .i64 a.1, .int .i64 a.2] ∧ Box w' (w.heap.size + 1) 62 (bs z64))
  · go_region_held3 (fun w' => w'.cell? ⟨d, 0, none⟩ = some (.int .i64 D.conv) ∧ w'.cell? ⟨d, 1, none⟩ = some (.int .i64 D.soft) ∧ w'.cell? ⟨d, 2, none⟩ = some (.int .i64 D.seq) ∧ w'.cell? ⟨d, 3, none⟩ = some (.int .i64 D.size) ∧ w'.cell? ⟨d, 4, none⟩ = some (.int .i64 D.opn) ∧
      w'.cell? ⟨d, 5, none⟩ = some (.slice (some ⟨gz, 0, none⟩) D.n cz) ∧ w'.cell? ⟨w.heap.size, 0, none⟩ = some (.int .i64 a.1) ∧ w'.cell? ⟨w.heap.size, 1, none⟩ = some (.int .i64 a.2))
      (first | exact SO.out _ (Below.refl _ _).drew | exact SO.out _ B2 | exact K5)
      ((first
        | ((with_reducible refine (HZ.out _ (Below.refl _ _).drew).mono ?_); rintro x w2 ⟨rfl, hb2⟩; have B2 : Below w1.heap.size w1 w2 := bthen (Below.refl _ _).drew hb2)
        | ((with_reducible refine (HR.out _ B2).mono ?_); rintro x w3 ⟨rfl, k1, k2, k3, k4, K5⟩)))
    all_goals exact ⟨w3, ⟨k1, k2, k3, k4⟩, rfl, rfl⟩
  intro w3 h3
  obtain ⟨hI3, hF3, y0, y1⟩ := h3
  obtain ⟨m8, hm8, hsz8⟩ := big_size (P := Try.prog) (t := 62) (s := 64) (by kernel_rfl)
  have hm80 : ¬ m8 = 0 := by omega
  have HM8 := Lib.hid hm8
  -- what is handed back lies in the variable
  have HB := Lib.hid fun (W : World) (p : List Int) (hp : p.length = 64) (hb : Box W (w.heap.size + 1) 62 (bs p)) => big_load0 Try.prog (w.heap.size + 1) 0 (bs p) m8 (by rw [bs_length, hp, HM8.out]) W (fun j v hj => by rw [Nat.zero_add]; exact (hb.cell j).trans hj)
  have HDV := Lib.hid fun (W : World) (p : Array Value) (hFW : Below w.heap.size w W) => show Below w.heap.size w (W.setRow (w.heap.size + 1) p) from
    ⟨hFW.os, hFW.tape, hFW.output, by simpa [World.setRow] using hFW.size, fun k hk => (setRow_other _ _ _ _ (by omega)).trans (hFW.block k hk)⟩
  clear hm8
  · obtain ⟨gz3, cz3, lb3, cv3, nb3, hD3, hown3, hcv3, hm3, hmn3, t3⟩ := id hI3
    obtain ⟨A3, cap3, rfl⟩ := own_slice hcv3
    have hcapb := own_cap hcv3
    have hcl := hO.cl
    have c6 := hD3.mem.2.1
    have c7 := hD3.mem.2.2.1
    have c8 := hD3.mem.2.2.2
    have a0 : w3.cell? ⟨w.heap.size, 0, none⟩ = some (.int .i64 a.1) := y0.cell 0
    have a1 : w3.cell? ⟨w.heap.size, 1, none⟩ = some (.int .i64 a.2) := y0.cell 1
    have hzi : ∀ w' : World, (zeroValue 3).run Try.prog w' = .ok (.int .i64 0) w' := fun w' => by go_simp
    have hlk : ∀ q : Nat, (Instr.lookup 80 (.map (some nb3)) (.agg #[.int .i64 a.1, .int .i64 a.2]) true).run Try.prog (w3.drewN q) = .ok (.tuple #[((newestV D.cache a).getD (.int .i64 0)), .bool (newestV D.cache a).isSome]) (w3.drewN q) :=
      fun q => (hmn3.same (w' := w3.drewN q) rfl).look_ok (a := a) Try.underlying80 (hzi _) h64.1 h64.2
    have HK := Lib.hid (And.intro hI3 (And.intro hF3 (And.intro y1 (And.intro hD3 (And.intro hcv3 (And.intro hm3 (And.intro hO h64)))))))
    cases hnw : newest D.cache a with
    | none =>
      have e1 : newestV D.cache a = none := by unfold newestV; rw [hnw]; rfl
      rw [e1] at hlk
      simp only [Option.getD_none, Option.isSome_none] at hlk
      have hpg := unpg_get (hO.pages a)
      have hpd : pageD D a = unpg (D.last a) := by unfold pageD; rw [hnw]
      have hlk2 : ∀ q : Nat, (Instr.lookup 78 (.map (some lb3)) (.agg #[.int .i64 a.1, .int .i64 a.2]) false).run Try.prog ((w3.drewN q).drew) = .ok (.agg (bs (unpg (D.last a))).toArray) ((w3.drewN q).drew) := fun q => by
        have := (hm3.same (w' := (w3.drewN q).drew) rfl).look (a := a) Try.underlying78 (zero_page _) h64.1 h64.2
        rw [hpg.1] at this
        exact this
      have HP := Lib.hid (And.intro hpd hpg.2)
      have HW := Lib.hid fun q : Nat => show (w3.drewN q).cell? ⟨d, 6, none⟩ = some (.map (some lb3)) ∧ (w3.drewN q).cell? ⟨w.heap.size, 0, none⟩ = some (.int .i64 a.1) ∧ (w3.drewN q).cell? ⟨w.heap.size, 1, none⟩ = some (.int .i64 a.2) ∧ (Instr.lookup 78 (.map (some lb3)) (.agg #[.int .i64 a.1, .int .i64 a.2]) false).run Try.prog ((w3.drewN q).drew) = .ok (.agg (bs (unpg (D.last a))).toArray) ((w3.drewN q).drew) ∧
          DevIs T (w3.drewN q) d D ∧ Below w.heap.size w (w3.drewN q) ∧ Box (w3.drewN q) (w.heap.size + 1) 62 (bs z64) from ⟨c6, a0, a1, hlk2 q, hI3, below_draws hF3 q, y1⟩
      clear hI3 hF3 y0 y1 hD3 hown3 hcv3 hm3 hmn3 t3 hnw e1 hpg hpd hO h64 hlk2
      go_wp2_with fail
      go_quiet (fail)
      obtain ⟨d6, b0, b1, hl4, hI4, hF4, y4⟩ := HW.out nq
      generalize w3.drewN nq = W4 at d6 b0 b1 hl4 hI4 hF4 y4 ⊢
      have H4 := Lib.hid (And.intro hI4 (And.intro hF4 y4))
      clear hI4 hF4 y4
      go_wp2_with fail
      go_still_tail 6, (by kernel_rfl)
      change wpList _ _ _ _ _ W4.drew
      refine wpList_store_page _ (o := ⟨none, .store _ _ _, _, _, _, _⟩) rfl _ _ rfl (w.heap.size + 1) (unpg (D.last a)) z64 HP.out.2 rfl rfl rfl H4.out.2.2 ?_
      have hbF : Box (W4.drew.setRow (w.heap.size + 1) (bs (unpg (D.last a))).toArray) (w.heap.size + 1) 62 (bs (unpg (D.last a))) := setRow_heap W4.drew _ _ _ _ _ H4.out.2.2
      have hldF := HB.out _ _ HP.out.2 hbF
      have KF := Lib.hid (HDV.out W4.drew (bs (unpg (D.last a))).toArray H4.out.2.1.drew)
      generalize W4.drew.setRow (w.heap.size + 1) (bs (unpg (D.last a))).toArray = W5 at hbF hldF KF ⊢
      have HbF := Lib.hid hbF
      clear hbF d6 b0 b1 hl4
      try go_frame
      go_wp2
      exact bodyPost_ret (v := .tuple #[.agg (bs (unpg (D.last a))).toArray, .int .i64 0]) (by simp [results, Try.results29, go_sem, hsz8, hldF]) rfl ⟨by rw [HP.out.1], KF.out⟩
    | some i =>
      have hil := newest_lt hnw
      have e1 : newestV D.cache a = some (.int .i64 (i : Int)) := by unfold newestV; rw [hnw]; rfl
      rw [e1] at hlk
      simp only [Option.getD_some, Option.isSome_some] at hlk
      have hck : D.cache[i]? = some (D.cache.getD i (0, 0, z64)) := by simp [hil]
      have hpd : pageD D a = (D.cache.getD i (0, 0, z64)).2.2 := by unfold pageD; rw [hnw]
      have hpl : (D.cache.getD i (0, 0, z64)).2.2.length = 64 := hO.wok _ (List.mem_of_getElem? hck)
      generalize D.cache.getD i (0, 0, z64) = c at hck hpd hpl
      obtain ⟨gc, rfl, _, hgw⟩ := own_at hcv3 (by omega)
      have hRg : w3.rangeAt gc (i * 66 + 2) (bs c.2.2) := fun j v hj => by
        have := wcs_get hO.wok hck (j + 2) v (by show (wc c)[j + 1 + 1]? = some v; exact hj)
        have h2 := (Rd.own hcv3).cell0 this
        rwa [show i * 66 + (j + 2) = i * 66 + 2 + j by omega] at h2
      have hlm : D.cache.length ≤ maxLen := by unfold maxLen; omega
      unfold maxLen at hlm
      have HP := Lib.hid (And.intro hpd hpl)
      have HW := Lib.hid fun q : Nat => show (w3.drewN q).cell? ⟨d, 7, none⟩ = some (.slice (some ⟨gc, 0, none⟩) D.cache.length cap3) ∧ (loadCellsFrom ⟨gc, i * 66 + 2, none⟩ 0 m8 #[]).run Try.prog (w3.drewN q) = .ok (bs c.2.2).toArray (w3.drewN q) ∧
          DevIs T (w3.drewN q) d D ∧ Below w.heap.size w (w3.drewN q) ∧ Box (w3.drewN q) (w.heap.size + 1) 62 (bs z64) from ⟨c7, big_load0 Try.prog gc (i * 66 + 2) (bs c.2.2) m8 (by rw [bs_length, hpl, HM8.out]) _ hRg, hI3, below_draws hF3 q, y1⟩
      have hiI : (i : Int) < (D.cache.length : Int) := by omega
      clear hI3 hF3 y0 y1 hD3 hown3 hcv3 hm3 hmn3 t3 hnw e1 hpd hpl hO h64 hRg hck
      go_wp2_with fail
      go_quiet (fail)
      obtain ⟨d7, hl4, hI4, hF4, y4⟩ := HW.out nq
      generalize w3.drewN nq = W4 at d7 hl4 hI4 hF4 y4 ⊢
      have H4 := Lib.hid (And.intro hI4 (And.intro hF4 y4))
      have hbF : Box (W4.setRow (w.heap.size + 1) (bs c.2.2).toArray) (w.heap.size + 1) 62 (bs c.2.2) := setRow_heap W4 _ _ _ _ _ y4
      have hldF := HB.out _ _ HP.out.2 hbF
      have KF := Lib.hid (HDV.out W4 (bs c.2.2).toArray hF4)
      clear hI4 hF4 y4 hbF
      go_wp2_with (with_reducible refine wpList_store_page _ (o := ⟨none, .store _ _ _, _, _, _, _⟩) rfl _ _ rfl (w.heap.size + 1) c.2.2 z64 HP.out.2 rfl rfl rfl H4.out.2.2 ?_)
      exact bodyPost_ret (v := .tuple #[.agg (bs c.2.2).toArray, .int .i64 0]) (by simp [results, Try.results29, go_sem, hsz8, hldF]) rfl ⟨by rw [HP.out.1], KF.out⟩
end
end Go.Proofs.Ythgjlofebicpiaa

/-
  Package pool: a variable that holds a pool is laid; a copy of numbers, of a pool.
-/
import Derived.Test.YtbhcemipjfdemaaPoE
import Derived.Test.YtbhcemipjfdemaaPoN
namespace Go.Proofs.Ytbhcemipjfdemaa
open Go.RowKit Geom Leaf Pol
set_option linter.unusedVariables false

abbrev plcs (A : Option Addr) (n cap : Nat) (h0 h1 h2 : Int) : List Value := [.slice A n cap, .int .i64 h0, .int .i64 h1, .int .i64 h2]
theorem pool_size (A : Option Addr) (n cap : Nat) (h0 h1 h2 : Int) : (Try.prog.info? 27).map (·.size) = some (plcs A n cap h0 h1 h2).length := by
  show _ = some 4
  kernel_rfl
theorem plcs_one (A : Option Addr) (n cap : Nat) (h0 h1 h2 : Int) : ∀ u ∈ plcs A n cap h0 h1 h2, u.oneCell' = true := by simp [plcs, Value.oneCell']
theorem zero_pool (w : World) : (zeroValue 27).run Try.prog w = .ok (.agg (plcs none 0 0 0 0 0).toArray) w :=
  (zero_of_info (P := Try.prog) (t := 27) (v := .agg (plcs none 0 0 0 0 0).toArray) (n := 4) (by kernel_rfl)).1 w
section
variable {w w' : World} {b : Nat} {A : Option Addr} {n cap : Nat} {h0 h1 h2 : Int} {T : TypeId} {cs : List Value}
theorem Box.pool (h : Box w b 27 (plcs A n cap h0 h1 h2)) : LiesP w b A n cap h0 h1 h2 := ⟨h.cell 0, h.cell 1, h.cell 2, h.cell 3, h.lt⟩
theorem Box.alloc (h : Box w b T cs) (o : Obj) : Box (w.alloc o) b T cs := h.same ((Below.refl w.heap.size w).alloc (Nat.le_refl _) o |>.block _ h.lt)
theorem Box.draws (h : Box w b T cs) (q : Nat) : Box (w.drewN q) b T cs := h
end
theorem pgrown_cell (w : World) (a : Addr) (u : Value) : w.grownBy (w.setCell a u) (some a.block) :=
  ⟨rfl, rfl, rfl, by simp, fun k _ hk => heap_setCell_other w a k u (fun e => hk (by simp [e]))⟩
/-- a pool is laid into a variable -/
theorem wpList_pool_store {w : World} {ops : Array Oper} {rest : List Oper} {o : Oper} {a : Act} {Q : Exit → Act → World → Prop} (hgd : o.guard = none) (x y : Operand) (ho : o.op = .store 27 x y) (g : Nat) (A A' : Option Addr) (n n' cap cap' : Nat) (h0 h1 h2 k0 k1 k2 : Int)
    (hx : a.eval x = .pointer (some ⟨g, 0, none⟩)) (hy : a.eval y = ppv A n cap h0 h1 h2) (hb : Box w g 27 (plcs A' n' cap' k0 k1 k2))
    (h : ∀ w', Box w' g 27 (plcs A n cap h0 h1 h2) → w.grownBy w' (some g) → wpList Try.prog ops Q rest (a.put o.dst undef) w') : wpList Try.prog ops Q (o :: rest) a w :=
  wpList_store_box w hgd _ x y ho g (plcs A n cap h0 h1 h2) (plcs A' n' cap' k0 k1 k2) (pool_size ..) rfl (plcs_one A n cap h0 h1 h2) hx hy hb
    (h _ (setRow_heap w g _ _ _ _ hb) ⟨rfl, rfl, rfl, by simp [World.setRow], fun k _ hk => setRow_other w g k _ (by intro e; exact hk (by rw [e]))⟩)
theorem wpList_pool_alloc {w : World} {ops : Array Oper} {rest : List Oper} {o : Oper} {a : Act} {Q : Exit → Act → World → Prop} (hgd : o.guard = none) (ho : o.op = .alloc 27)
    (h : ∀ w', Box w' w.heap.size 27 (plcs none 0 0 0 0 0) → Below w.heap.size w w' → w'.heap.size = w.heap.size + 1 → wpList Try.prog ops Q rest (a.put o.dst (.pointer (some ⟨w.heap.size, 0, none⟩))) w') : wpList Try.prog ops Q (o :: rest) a w :=
  wpList_alloc_box w hgd _ ho _ zero_pool h

theorem isnil_ints (w : World) (a : Option Addr) (n c : Nat) : (binOp .eql 24 (.slice a n c) (.slice none 0 0)).run Try.prog w = .ok (.bool a.isNone) w := Lib.run_eql_slice_nil w _ _ a n c 0 0 Try.underlying24
theorem is_cells (zs : List Int) : ∀ u ∈ is zs, u.oneCell' = true := is_one zs
theorem sclone_any (A : Option Addr) (n cap : Nat) (ps : List Int) (w : World) (hm : n ≤ 64) (hn : ps.length = n) (h0 : 0 < n) (hr : Rd w w.heap.size A (is ps)) :
    Calls Try.prog 42 #[.slice A n cap] w fun e w' => ∃ g c, e = .returned (.slice (some ⟨g, 0, none⟩) n c) ∧ w'.ownsRow w.heap.size 3 1 (.slice (some ⟨g, 0, none⟩) n c) n (is ps) ∧ Below w.heap.size w w' := by
  have qN := isnil_ints
  obtain ⟨ad, rfl, _, _⟩ := hr.point (k := 0) (by omega)
  have HL := Lib.hid (show (is ps).length = n * 1 by rw [is_length, hn, Nat.mul_one])
  clear hn
  go_enter Try.func42, Try.ntmps42
  go_wp2_with (at_builtin; refine wpList_append_copy _ rfl _ _ _ rfl 3 _ 1 8 pelemI rfl (some ad) n cap rfl (is ps) HL.out hr (is_cells ps) (by simp only [maxLen]; omega) (by omega) ?_; intro A2 c2 w2 hown hb2)
  obtain ⟨g, rfl, _, _⟩ := own_at hown h0
  go_ret
  exact ⟨g, c2, rfl, hown, hb2⟩

set_option maxRecDepth 100000 in
theorem pcopied_any (A : Option Addr) (n cap : Nat) (ps : List Int) (h0 h1 h2 : Int) (w : World) (hm : n ≤ 64) (hn : ps.length = n) (hp : 0 < n) (hr : Rd w w.heap.size A (is ps)) :
    Calls Try.prog 44 #[ppv A n cap h0 h1 h2] w fun e w' => ∃ g c, e = .returned (ppv (some ⟨g, 0, none⟩) n c h0 h1 h2) ∧ w'.ownsRow w.heap.size 3 1 (.slice (some ⟨g, 0, none⟩) n c) n (is ps) ∧ Below w.heap.size w w' := by
  have HC := Lib.hid fun w' (h : Below w.heap.size w w') => sclone_any A n cap ps w' hm hn hp ((hr.below h).more h.size)
  have hbx := Box.new w 27 (plcs A n cap h0 h1 h2)
  have hbx2 := Box.new (w.alloc (.cells (plcs A n cap h0 h1 h2).toArray 27)) 27 (plcs none 0 0 0 0 0)
  have hbx1 := hbx.alloc (.cells (plcs none 0 0 0 0 0).toArray 27)
  have hb0 : Below w.heap.size w ((w.alloc (.cells (plcs A n cap h0 h1 h2).toArray 27)).alloc (.cells (plcs none 0 0 0 0 0).toArray 27)) := ((Below.refl _ _).alloc (Nat.le_refl _) _).alloc (by simp) _
  rw [show (w.alloc (.cells (plcs A n cap h0 h1 h2).toArray 27)).heap.size = w.heap.size + 1 by simp] at hbx2
  clear hbx hr
  go_enter Try.func44, Try.ntmps44
  go_wp2_with fail
  generalize World.alloc _ _ = w0 at hbx1 hbx2 hb0 ⊢
  obtain ⟨a0, a1, a2, a3, al⟩ := hbx1.pool
  have HB0 := Lib.hid (And.intro hbx1 (And.intro hbx2 hb0))
  clear hbx1 hbx2 hb0
  go_wp2_with fail
  refine (HC.out _ HB0.out.2.2).mono ?_
  rintro e w1 ⟨g, c, rfl, hown, hb⟩
  have hlt := HB0.out.1.lt
  have hlt2 := HB0.out.2.1.lt
  have f1 := (HB0.out.1.on hb).frozen 0
  have x1 := (HB0.out.1.on hb).set 0 (.slice (some ⟨g, 0, none⟩) n c)
  have hg1 := pgrown_cell w1 ⟨w.heap.size, 0, none⟩ (.slice (some ⟨g, 0, none⟩) n c)
  have x2 := (HB0.out.2.1.on hb).grown hg1 (by simp)
  have hgb := (own_at hown hp)
  obtain ⟨g', hgA, hgw, hg⟩ := hgb
  obtain rfl : g = g' := by injection hgA with h; injection h
  have o2 := own_grown hown hg1 (by simp; omega)
  have HB2 := Lib.hid ((bthen HB0.out.2.2 hb).grown hg1 (bthen HB0.out.2.2 hb).size (fun k hk => by injection hk with hk; rw [← hk]; exact Nat.le_refl _))
  have ex := (HB0.out.1.on hb).cell 0
  obtain ⟨e0, e1, e2, e3, el⟩ := Box.pool x1
  have HO2 := Lib.hid (own_base0 o2 HB0.out.2.2.size)
  have HG := Lib.hid (Nat.le_trans (Nat.succ_le_of_lt hlt2) hgw)
  clear a0 a1 a2 a3 al hb hown hg1 HC o2 HB0 x1 hgA hgw hg el
  go_wp2_with ((with_reducible refine wpList_pool_store (o := ⟨none, .store _ _ _, _, _, _, _⟩) rfl _ _ rfl _ (some ⟨g, 0, none⟩) none n 0 c 0 h0 h1 h2 0 0 0 rfl rfl x2 ?_); intro w4 x4 hg4; have HF := Lib.hid (HB2.out.grown hg4 HB2.out.size (fun k hk => by injection hk with hk; omega)); have HO4 := Lib.hid (own_grown HO2.out hg4 (by have := HG.out; omega)); obtain ⟨r0, r1, r2, r3, rl⟩ := Box.pool x4; clear hg4 x4)
  exact bodyPost_ret (v := ppv (some ⟨g, 0, none⟩) n c h0 h1 h2) (by simp [results, Try.results44, go_sem, r0, r1, r2, r3]) rfl ⟨g, c, rfl, HO4.out, HF.out⟩
end Go.Proofs.Ytbhcemipjfdemaa

/-
  Mix DfD DfE DfF
-/
import Derived.WalkKit
import Derived.Test.YtkdhibjmfanhcaaMg32
/-
  A row laid over another from the front. Nothing here speaks of one program.
-/
namespace Go.Proofs.Ytkdhibjmfanhcaa
/-- a row laid over another from the front -/
def mix (S p : List Int) (n : Nat) : List Int := S.take n ++ p.drop n
theorem mix_length {S p : List Int} {n : Nat} (h : S.length = p.length) (hn : n ≤ p.length) : (mix S p n).length = p.length := by simp [mix, h]; omega
theorem mix_set {S p : List Int} {n : Nat} (h : S.length = p.length) (hn : n < p.length) : (mix S p n).set n (S.getD n 0) = mix S p (n + 1) := by
  unfold mix
  have e : (S.take n).length = n := by simp; omega
  rw [List.set_append_right _ _ (by omega), e, Nat.sub_self, List.drop_eq_getElem_cons hn, List.set_cons_zero, List.take_succ_eq_append_getElem (by omega), List.append_assoc]
  simp [List.getD_eq_getElem?_getD, List.getElem?_eq_getElem (show n < S.length by omega)]
theorem mix_all {S p : List Int} {n : Nat} (h : S.length = p.length) (hn : n = p.length) : mix S p n = S := by
  unfold mix
  rw [List.drop_eq_nil_of_le (by omega), List.append_nil, List.take_of_length_le (by omega)]
theorem mix_zero (S p : List Int) : mix S p 0 = p := by simp [mix]
end Go.Proofs.Ytkdhibjmfanhcaa

/-
  The document's answers for layer 5: the answer's disk in memory (DkIs), in blocks of Q; what Crash begins with.
-/
namespace Go.Proofs.Ytkdhibjmfanhcaa
open Go.RowKit Geom Zone Dev
set_option linter.unusedVariables false

/-- rows that lie in blocks of Q -/
def RdQ (Q : Nat → Prop) (w : World) (A : Option Addr) (xs : List Value) : Prop := xs ≠ [] → ∃ ad, A = some ad ∧ Q ad.block ∧ ad.block < w.heap.size ∧ ∀ j u, xs[j]? = some u → w.cell? (ad.add j) = some u
def RowQ (Q : Nat → Prop) (w : World) (A : Option Addr) (xs : List Value) : Prop := xs ≠ [] → ∃ g, A = some ⟨g, 0, none⟩ ∧ Q g ∧ g < w.heap.size ∧ w.rangeAt g 0 xs
section
variable {w w' : World} {Q U : Nat → Prop} {A : Option Addr} {xs : List Value}
theorem RdQ.rd (h : RdQ Q w A xs) : Rd w w.heap.size A xs := fun hn => by obtain ⟨ad, e, _, hb, hc⟩ := h hn; exact ⟨ad, e, hb, hc⟩
theorem RowQ.row (h : RowQ Q w A xs) : Row w w.heap.size A xs := fun hn => by obtain ⟨g, e, _, hb, hc⟩ := h hn; exact ⟨g, e, hb, hc⟩
theorem RdQ.kept (h : RdQ Q w A xs) (hU : ∀ k, k < w.heap.size → Q k → U k) (hs : w.heap.size ≤ w'.heap.size) (hk : ∀ k, k < w.heap.size → Q k → w'.heap[k]? = w.heap[k]?) : RdQ U w' A xs := fun hn => by
  obtain ⟨ad, e, hq, hb, hc⟩ := h hn
  exact ⟨ad, e, hU _ hb hq, Nat.lt_of_lt_of_le hb hs, fun j u hu => (World.cell?_of_block (by rw [addr_add_block]; exact hk _ hb hq)).trans (hc j u hu)⟩
theorem RowQ.kept (h : RowQ Q w A xs) (hU : ∀ k, k < w.heap.size → Q k → U k) (hs : w.heap.size ≤ w'.heap.size) (hk : ∀ k, k < w.heap.size → Q k → w'.heap[k]? = w.heap[k]?) : RowQ U w' A xs := fun hn => by
  obtain ⟨g, e, hq, hb, hc⟩ := h hn
  exact ⟨g, e, hU _ hb hq, Nat.lt_of_lt_of_le hb hs, fun j u hu => (World.cell?_of_block (hk g hb hq)).trans (hc j u hu)⟩
theorem RdQ.empty : RdQ Q w A [] := fun h => absurd rfl h
theorem RowQ.empty : RowQ Q w A [] := fun h => absurd rfl h
theorem RdQ.on (h : RdQ Q w A xs) (hb : Below w.heap.size w w') : RdQ Q w' A xs := h.kept (fun _ _ hq => hq) hb.size fun k hk _ => hb.block k hk
theorem RowQ.on (h : RowQ Q w A xs) (hb : Below w.heap.size w w') : RowQ Q w' A xs := h.kept (fun _ _ hq => hq) hb.size fun k hk _ => hb.block k hk
/-- a row that was made since -/
theorem RowQ.own {base : Nat} {e : TypeId} {size n c : Nat} (h : w.ownsRow base e size (.slice A n c) n xs) (hQ : ∀ k, base ≤ k → Q k) : RowQ Q w A xs := fun hn => by
  obtain ⟨g, hA, hb, hc⟩ := Row.own h hn
  refine ⟨g, hA, hQ g ?_, hb, hc⟩
  subst hA
  exact (own_type h rfl).1
theorem RdQ.own {base : Nat} {e : TypeId} {size n c : Nat} (h : w.ownsRow base e size (.slice A n c) n xs) (hQ : ∀ k, base ≤ k → Q k) : RdQ Q w A xs := fun hn => by
  obtain ⟨g, hA, hb, hc⟩ := Row.own h hn
  subst hA
  exact ⟨_, rfl, hQ g (own_type h rfl).1, hb, fun j u hu => by rw [Addr.add_mid]; exact hc j u hu⟩
end
theorem below_alloc1 {w w' : World} {o : Obj} (h : Below w.heap.size w w') : Below w.heap.size w (w'.alloc o) := h.alloc h.size o
/-- append of a slice, at a step of a region that draws its order -/
theorem step_append_rd {P : Program} (w : World) {ops : Array Oper} {o : Oper} {a : Act} {K : Act → World → Prop} {Q : Exit → Act → World → Prop} {E : Prop} (hgd : o.guard = none) (s x : Operand) (t : TypeId)
    (ho : o.op = .call { callee := .builtin .append, args := #[s, x], argTypes := #[t, t] })
    (base : Nat) (e : TypeId) (z : Value) (size bytes : Nat) (he : Elem P t e z size bytes)
    (v : Value) (n : Nat) (xs : List Value) (hs : a.eval s = v) (hown : w.ownsRow base e size v n xs)
    (B : Nat) (A : Option Addr) (m c : Nat) (ys : List Value) (hx : a.eval x = .slice A m c) (hl : ys.length = m * size) (hr : Rd w B A ys) (h1 : ∀ u ∈ ys, u.oneCell' = true)
    (h63 : n + m ≤ maxLen) (hbytes : (n + m) * bytes ≤ 140737488355328) (hbase : base ≤ w.heap.size)
    (h : ∀ v' w', w'.ownsRow base e size v' (n + m) (xs ++ ys) → w.grownBy w' v.ownBlock → K (a.put o.dst v') w') :
    if Region.wanted o (yielded ops a.tmps) = true then Oper.wp P o a w K Q else E := by
  have hw : Region.wanted o (yielded ops a.tmps) = true := by simp [Region.wanted, hgd]
  rw [if_pos hw]
  obtain ⟨ht, i, hi, hz, hsize, hby, hzs, hsz⟩ := he
  obtain ⟨v', w', hrun, h2, h3, h4⟩ := run_append_rd (P := P) w base t o.type e i z size bytes ht hi hz hsize hby hzs hsz v n xs hown B A m c ys hl hr h1 h63 hbytes hbase
  unfold Oper.wp execOp
  simp only [ho, resolve, invoke, builtin, Sem.run_bind, Sem.run_pure, Result.andThen_ok, List.map_toArray, List.map_cons, List.map_nil, hs, hx, hrun]
  exact h v' w' h2 h3
/-- the answer's disk in memory, in blocks of Q -/
structure DkIs (N : Nat) (conv soft seq size opn : Int) (Q : Nat → Prop) (w : World) (v : KV) (d : Dk) : Prop where
  fg : v.g0 = conv ∧ v.g1 = soft ∧ v.g2 = seq ∧ v.g3 = size ∧ v.g4 = opn
  fz : ∃ A n c, v.zv = .slice A n c ∧ d.L.length = n ∧ (n : Int) = conv + seq ∧ RdQ Q w A (zc d.L)
  fd : ∃ A n c, v.dv = .slice A n c ∧ d.done.length = n ∧ n ≤ N ∧ RdQ Q w A (ints d.done)
  fs : ∃ A n c, v.sv = .slice A n c ∧ d.safe.length = n ∧ WOk d.safe ∧ RowQ Q w A (wcs d.safe)
  fc : ∃ A n c, v.cv = .slice A n c ∧ d.cached.length = n ∧ WOk d.cached ∧ RowQ Q w A (wcs d.cached)
  fsum : d.safe.length + d.cached.length ≤ N
  fnum : v.armed = d.armed ∧ v.left = d.left ∧ v.down = d.down ∧ v.ill = d.ill ∧ 0 ≤ d.ill ∧ d.ill ≤ N
theorem DkIs.ok {N : Nat} {conv soft seq size opn : Int} {Q : Nat → Prop} {w : World} {v : KV} {d : Dk} (h : DkIs N conv soft seq size opn Q w v d) : KOk v := by
  obtain ⟨_, ⟨_, _, _, hz, _⟩, ⟨_, _, _, hd, _⟩, ⟨_, _, _, hs, _⟩, ⟨_, _, _, hc, _⟩, _, _⟩ := h
  exact ⟨by rw [hz]; rfl, by rw [hd]; rfl, by rw [hs]; rfl, by rw [hc]; rfl⟩
theorem DkIs.on {N : Nat} {conv soft seq size opn : Int} {Q : Nat → Prop} {w w' : World} {v : KV} {d : Dk} (h : DkIs N conv soft seq size opn Q w v d) (hb : Below w.heap.size w w') : DkIs N conv soft seq size opn Q w' v d := by
  obtain ⟨h1, ⟨A, n, c, hz, h2, h3, h4⟩, ⟨A1, n1, c1, hd, h5, h6, h7⟩, ⟨A2, n2, c2, hs, h8, h9, h10⟩, ⟨A3, n3, c3, hc, h11, h12, h13⟩, h14, h15⟩ := h
  exact ⟨h1, ⟨A, n, c, hz, h2, h3, h4.on hb⟩, ⟨A1, n1, c1, hd, h5, h6, h7.on hb⟩, ⟨A2, n2, c2, hs, h8, h9, h10.on hb⟩, ⟨A3, n3, c3, hc, h11, h12, h13.on hb⟩, h14, h15⟩

/-- the wreck, and the disk, in variables of their own -/
abbrev wkc (keepA : Option Addr) (kn kc : Nat) (soft0 tear : Int) : List Value := [.slice keepA kn kc, .int .u64 soft0, .int .i64 tear]
theorem wpList_wk_box {w : World} {ops : Array Oper} {rest : List Oper} {o : Oper} {a : Act} {Q : Exit → Act → World → Prop} (hgd : o.guard = none) (x : Operand) (ho : o.op = .box 28 x) (cs : List Value) (hx : a.eval x = .agg cs.toArray)
    (h : ∀ w', Box w' w.heap.size 28 cs → Below w.heap.size w w' → w'.heap.size = w.heap.size + 1 → wpList Try.prog ops Q rest (a.put o.dst (.pointer (some ⟨w.heap.size, 0, none⟩))) w') : wpList Try.prog ops Q (o :: rest) a w :=
  wpList_box_box w hgd _ x ho cs hx h
def CrSt (w W : World) (v : KV) (wk : List Value) : Prop := Box W w.heap.size 36 (kcs v) ∧ Box W (w.heap.size + 1) 28 wk ∧ Box W (w.heap.size + 1 + 1) 36 (kcs kd0) ∧ Below w.heap.size w W ∧ w.heap.size + 3 ≤ W.heap.size
theorem CrSt.on {w W W' : World} {v : KV} {wk : List Value} (h : CrSt w W v wk) (hb : Below W.heap.size W W') : CrSt w W' v wk := ⟨h.1.on hb, h.2.1.on hb, h.2.2.1.on hb, bthen h.2.2.2.1 hb, Nat.le_trans h.2.2.2.2 hb.size⟩
theorem CrSt.start {w w1 w2 w3 : World} {v : KV} {wk : List Value} (x0 : Box w1 w.heap.size 36 (kcs v)) (hB1 : Below w.heap.size w w1) (hs1 : w1.heap.size = w.heap.size + 1) (x1 : Box w2 w1.heap.size 28 wk) (hB2 : Below w1.heap.size w1 w2) (hs2 : w2.heap.size = w1.heap.size + 1)
    (x2 : Box w3 w2.heap.size 36 (kcs kd0)) (hB3 : Below w2.heap.size w2 w3) (hs3 : w3.heap.size = w2.heap.size + 1) : CrSt w w3 v wk := by
  rw [hs2, hs1] at x2
  rw [hs1] at x1
  exact ⟨(x0.below hB2 (by omega)).below hB3 (by omega), x1.below hB3 (by omega), x2, bthen (bthen hB1 hB2) hB3, by omega⟩

/-- a disk is laid into its variable, at a step of a region that draws its order -/
theorem step_kd_store {w : World} {ops : Array Oper} {o : Oper} {a : Act} {K : Act → World → Prop} {Q : Exit → Act → World → Prop} {E : Prop} (hgd : o.guard = none) (x y : Operand) (ho : o.op = .store 36 x y) (g : Nat) (r old : KV) (hr : KOk r)
    (hx : a.eval x = .pointer (some ⟨g, 0, none⟩)) (hy : a.eval y = .agg (kcs r).toArray) (hb : Box w g 36 (kcs old)) (h : ∀ w', Box w' g 36 (kcs r) → w.grownBy w' (some g) → K (a.put o.dst undef) w') :
    if Region.wanted o (yielded ops a.tmps) = true then Oper.wp Try.prog o a w K Q else E := by
  have hw : Region.wanted o (yielded ops a.tmps) = true := by simp [Region.wanted, hgd]
  rw [if_pos hw]
  have hrun := run_storeVar_row (P := Try.prog) w g 36 36 (kcs old).toArray (kcs r).toArray hb (by simpa using kd_size r) rfl (all_oneCell_toArray (kcs_one hr))
  have hK := h (w.setRow g (kcs r).toArray) (setRow_heap w g _ _ _ _ hb) ⟨rfl, rfl, rfl, by simp [World.setRow], fun k _ hk => setRow_other w g k _ (by intro e; exact hk (by rw [e]))⟩
  unfold Oper.wp execOp
  simp only [ho, hx, hy, Instr.storeAt, Instr.sureAddr, Sem.run_bind, Sem.run_pure, Result.andThen_ok, hrun]
  exact hK
end Go.Proofs.Ytkdhibjmfanhcaa

/-
  The document's answers for layer 5: New.
-/
namespace Go.Proofs.Ytkdhibjmfanhcaa
open Go.RowKit Geom Zone Dev
set_option linter.unusedVariables false

/-- the disk that New makes -/
def dk0 (conv : Int) (n : Nat) : Dk := { L := newK n conv.toNat, done := [], safe := [], cached := [], armed := false, left := 0, down := false, ill := 0 }
def nK (conv soft seq size opn : Int) (zv : Value) : KV := ⟨conv, soft, seq, size, opn, zv, nilV, nilV, nilV, false, 0, false, 0⟩
theorem dk0_is {conv soft seq size opn : Int} {n g c : Nat} {w w' : World} (hn : (n : Int) = conv + seq) (hc : 0 ≤ conv) (hs : 0 ≤ seq) (hown : w'.ownsRow w.heap.size 53 2 (.slice (some ⟨g, 0, none⟩) n c) n (zc (newK n conv.toNat))) :
    DkIs 0 conv soft seq size opn (fun k => w.heap.size ≤ k) w' (nK conv soft seq size opn (.slice (some ⟨g, 0, none⟩) n c)) (dk0 conv n) :=
  ⟨⟨rfl, rfl, rfl, rfl, rfl⟩, ⟨_, n, c, rfl, newK_length (by omega), hn, RdQ.own hown fun _ h => h⟩, ⟨none, 0, 0, rfl, rfl, Nat.le_refl _, RdQ.empty⟩, ⟨none, 0, 0, rfl, rfl, fun c h => by simp [dk0] at h, RowQ.empty⟩, ⟨none, 0, 0, rfl, rfl, fun c h => by simp [dk0] at h, RowQ.empty⟩, Nat.le_refl _, rfl, rfl, rfl, rfl, Int.le_refl _, Int.le_refl _⟩

/-- where all orders of a region come to one end, but for a slice that hangs on the order -/
def MeetN (A : Value → Act) (R : World → Value → Prop) : Exit → Act → World → Prop
  | .normal, a, w => ∃ v, R w v ∧ a = A v
  | _, _, _ => False
theorem wp_meetN {P : Program} {c : Code} {Q : Exit → Act → World → Prop} {a : Act} {w : World} {A : Value → Act} (R : World → Value → Prop) (h : c.wp P (MeetN A R) a w)
    (h2 : ∀ w v, R w v → Q .normal (A v) w) : c.wp P Q a w :=
  Code.wp_mono (fun e a' w' hm => by
    cases e <;> first | exact (hm : False).elim | (obtain ⟨v, hr, rfl⟩ := (hm : ∃ v, R w' v ∧ a' = A v); exact h2 _ v hr)) h

set_option maxRecDepth 100000 in
set_option maxHeartbeats 2000000 in
theorem dknew_any (conv soft seq size opn : Int) (n : Nat) (w : World) (H : Ok conv soft seq size opn) (hn : (n : Int) = conv + seq) :
    Calls Try.prog 7 #[.agg #[.int .i64 conv, .int .i64 soft, .int .i64 seq, .int .i64 size, .int .i64 opn]] w fun e w' => ∃ v', e = .returned (.agg (kcs v').toArray) ∧
      DkIs 0 conv soft seq size opn (fun k => w.heap.size ≤ k) w' v' (dk0 conv n) ∧ Below w.heap.size w w' := by
  have HN := Lib.hid fun w' => rnew_any conv soft seq size opn n w' ⟨H.1, H.2.1, H.2.2.1, H.2.2.2.1, H.2.2.2.2.1⟩ hn
  have HB := Lib.hid (And.intro H.1 H.2.1)
  obtain ⟨mk, hmk, hszk⟩ := big_size (P := Try.prog) (t := 36) (s := 13) (by kernel_rfl)
  have hmk0 : ¬ mk = 0 := by omega
  have hl := Lies.new w conv soft seq size opn 23 (0, 0)
  have hB1 : Below w.heap.size w (w.alloc (.cells #[.int .i64 conv, .int .i64 soft, .int .i64 seq, .int .i64 size, .int .i64 opn] 23)) := (Below.refl _ _).alloc (Nat.le_refl _) _
  have hz1 : (w.alloc (.cells #[.int .i64 conv, .int .i64 soft, .int .i64 seq, .int .i64 size, .int .i64 opn] 23)).heap.size = w.heap.size + 1 := by simp
  have HZ := Lib.hid (And.intro hB1 hz1)
  clear hB1 hz1
  go_enter Try.func7, Try.ntmps7
  go_wp2_with (first
    | ((with_reducible refine wpList_kd_alloc (o := ⟨some 2, .alloc _, _, _, _, _⟩) rfl rfl ?_); intro w2 x2 hB2 hs2)
    | fail)
  have hl2 : Lies w2 w.heap.size conv soft seq size opn := hl.below hB2
  rw [HZ.out.2] at x2 hs2 ⊢
  have hB : Below w.heap.size w w2 := bthen HZ.out.1 hB2
  clear hl hB2 HZ
  have hSO : ∀ w', Below (w.heap.size + 1) w2 w' → (w'.cell? ⟨w.heap.size, 0, none⟩ = some (.int .i64 conv) ∧ w'.cell? ⟨w.heap.size, 1, none⟩ = some (.int .i64 soft) ∧ w'.cell? ⟨w.heap.size, 2, none⟩ = some (.int .i64 seq) ∧ w'.cell? ⟨w.heap.size, 3, none⟩ = some (.int .i64 size) ∧ w'.cell? ⟨w.heap.size, 4, none⟩ = some (.int .i64 opn)) := fun w' h => by
    have hb := h.block w.heap.size (by omega)
    exact ⟨(World.cell?_of_block hb).trans hl2.1, (World.cell?_of_block hb).trans hl2.2.1, (World.cell?_of_block hb).trans hl2.2.2.1, (World.cell?_of_block hb).trans hl2.2.2.2.1, (World.cell?_of_block hb).trans hl2.2.2.2.2.1⟩
  have SO := Lib.hid hSO
  have hB2' : Below (w.heap.size + 1) w2 w2 := Below.refl _ _
  clear hSO
  try simp only [Act.put, List.setIfInBounds_toArray, List.set_cons_zero, List.set_cons_succ]
  apply wp_meetN (fun W zv => ∃ g c, zv = .slice (some ⟨g, 0, none⟩) n c ∧ Box W (w.heap.size + 1) 36 (kcs (nK conv soft seq size opn zv)) ∧ W.ownsRow w.heap.size 53 2 zv n (zc (newK n conv.toNat)) ∧ Below w.heap.size w W)
  case h =>
    refine wp_region_held_drew (S := (fun w' => w'.cell? ⟨w.heap.size, 0, none⟩ = some (.int .i64 conv) ∧ w'.cell? ⟨w.heap.size, 1, none⟩ = some (.int .i64 soft) ∧ w'.cell? ⟨w.heap.size, 2, none⟩ = some (.int .i64 seq) ∧ w'.cell? ⟨w.heap.size, 3, none⟩ = some (.int .i64 size) ∧ w'.cell? ⟨w.heap.size, 4, none⟩ = some (.int .i64 opn))) (by kernel_rfl) ?_ (fun hHeld => ?_)
    · exact SO.out _ hB2'.drew
    refine wpAnyH_take (i := 0) (v := ?v0) rfl (by kernel_rfl) (by kernel_rfl) (by kernel_rfl) (fun _ _ _ h => h) (Or.inl ⟨by rfl, ?hy0⟩) (by assumption) ?rest0
    case hy0 =>
      intro w hSw
      try dsimp only at hSw
      go_simp
      try with_reducible rfl
    try simp only [Act.put, List.setIfInBounds_toArray, List.set_cons_zero, List.set_cons_succ]
    refine wpAnyH_take (i := 1) (v := ?v1) rfl (by kernel_rfl) (by kernel_rfl) (by kernel_rfl) (fun _ _ _ h => h) (Or.inl ⟨by rfl, ?hy1⟩) (by assumption) ?rest1
    case hy1 =>
      intro w hSw
      try dsimp only at hSw
      go_simp
      try with_reducible rfl
    try simp only [Act.put, List.setIfInBounds_toArray, List.set_cons_zero, List.set_cons_succ]
    refine wpAnyH_ready (rs := [2]) (by kernel_rfl) (by simp) ?_
    refine AllReadyH.cons (o := ⟨some 5, .call _, _, _, _, _⟩) rfl (fun K hK => ?_) AllReadyH.nil
    go_simp
    refine (HN.out _).mono ?_
    rintro x w5 ⟨g5, c5, rfl, hown5, hb5⟩
    have B5 : Below w2.heap.size w2 w5 := bthen (Below.refl _ _).drew hb5
    go_wp2_with fail
    refine hK.out _ _ (SO.out _ (B5.mono (by omega))) (fun hHeld => ?_)
    clear hK K
    try simp only [Act.put, List.setIfInBounds_toArray, List.set_cons_zero, List.set_cons_succ]
    refine wpAnyH_take (i := 3) (oi := ⟨some 6, .build _ _, _, _, _, _⟩) (v := ?v3) rfl (by kernel_rfl) (by kernel_rfl) (by kernel_rfl) (fun _ _ _ h => h) (Or.inl ⟨by rfl, ?hy3⟩) (by assumption) ?rest3
    case hy3 =>
      intro w hSw
      try dsimp only at hSw
      go_simp
      try with_reducible rfl
    try simp only [Act.put, List.setIfInBounds_toArray, List.set_cons_zero, List.set_cons_succ]
    have hx5 : Box w5 (w.heap.size + 1) 36 (kcs kd0) := x2.below B5 (by omega)
    refine wpAnyH_ready (rs := [4]) (by kernel_rfl) (by simp) ?_
    refine AllReadyH.cons (o := ⟨none, .store _ _ _, _, _, _, _⟩) rfl (fun K hK => ?_) AllReadyH.nil
    refine step_kd_store rfl _ _ rfl (w.heap.size + 1) (nK conv soft seq size opn (.slice (some ⟨g5, 0, none⟩) n c5)) kd0 ⟨rfl, rfl, rfl, rfl⟩ (by rfl) (by rfl) hx5 ?_
    intro w6 hx6 hg6
    have B6 : Below (w.heap.size + 1) w2 w6 := below_stored (B5.mono (by omega)) hg6 (by have := B5.size; omega) (by omega)
    have B7 : Below w.heap.size w w6 := below_stored (hB.trans (B5.mono (by omega))) hg6 (by have := B5.size; omega) (by omega)
    have ho6 : w6.ownsRow w2.heap.size 53 2 (.slice (some ⟨g5, 0, none⟩) n c5) n (zc (newK n conv.toNat)) := own_same (by simpa using hown5) fun g hg => hg6.block g ((hown5).lt g hg).2 fun e => hx5.ne_row hown5 hg (by decide) (by injection e with e; exact e.symm)
    refine hK.out _ _ (SO.out _ B6) (fun hHeld => ?_)
    clear hK K
    try simp only [Act.put, List.setIfInBounds_toArray, List.set_cons_zero, List.set_cons_succ]
    refine wpAnyH_done (by kernel_rfl) ?_ _
    have hRR : ∃ g c, (Value.slice (some ⟨g5, 0, none⟩) n c5) = .slice (some ⟨g, 0, none⟩) n c ∧ Box w6 (w.heap.size + 1) 36 (kcs (nK conv soft seq size opn (.slice (some ⟨g5, 0, none⟩) n c5))) ∧ w6.ownsRow w.heap.size 53 2 (.slice (some ⟨g5, 0, none⟩) n c5) n (zc (newK n conv.toNat)) ∧ Below w.heap.size w w6 := ⟨g5, c5, rfl, hx6, own_base0 ho6 (show w.heap.size ≤ w2.heap.size by omega), B7⟩
    clear hx6 ho6 hx5 hown5 hg6 B5 B6 B7 hb5
    generalize Value.slice (some ⟨g5, 0, none⟩) n c5 = zv at hRR ⊢
    exact ⟨zv, hRR, rfl⟩
  case h2 =>
    rintro w6 _ ⟨g, c, rfl, hx, hown, hBW⟩
    have hldF := big_load0 Try.prog (w.heap.size + 1) 0 (kcs (nK conv soft seq size opn (.slice (some ⟨g, 0, none⟩) n c))) mk (by rw [hmk]; rfl) _ hx.range0
    have HF := Lib.hid (dk0_is (soft := soft) (size := size) (opn := opn) hn (by have := HB.out; omega) (by have := HB.out; omega) hown)
    have HB2 := Lib.hid hBW
    clear hx hown hBW
    go_wp2_with fail
    generalize hR : kcs _ = R at hldF ⊢
    exact bodyPost_ret (v := .agg R.toArray) (by simp [results, Try.results7, go_sem, hszk, hldF]) rfl ⟨_, by rw [hR], HF.out, HB2.out⟩
end Go.Proofs.Ytkdhibjmfanhcaa

/-
  The document's answers for layer 5: the mathematics of Crash's loop over the cache.
-/
namespace Go.Proofs.Ytkdhibjmfanhcaa
open Go.RowKit Geom Zone Dev
set_option linter.unusedVariables false

namespace Dev
/-- where Crash stands in front of write k; and what is safe there -/
def sAt (conv : Int) (keep : List Int) (soft0 : Int) (d : Dk) (k : Nat) : CK := ckAll conv keep soft0 (d.cached.take k) (ck0 soft0 d.safe)
def SAt (conv : Int) (keep : List Int) (soft0 tear : Int) (d : Dk) (k : Nat) : List Wr := if k = d.cached.length then safeK conv keep soft0 tear d else (sAt conv keep soft0 d k).safe
structure CkOk (n : Nat) (k : Nat) (s : CK) : Prop where
  bits : 0 ≤ s.bits ∧ s.bits < 18446744073709551616
  soft : 0 ≤ s.soft ∧ s.soft ≤ k
  len : s.seen.length = 64
  seen : ∀ j, 0 ≤ s.seen.getD j 0 ∧ s.seen.getD j 0 ≤ k
  safe : s.safe.length ≤ n + k
  wok : WOk s.safe
variable {conv : Int} {keep : List Int} {soft0 tear : Int} {d : Dk} {k : Nat} {c : Wr}
theorem getD_set_all (l : List Int) (i j : Nat) (v : Int) : (l.set i v).getD j 0 = if i = j ∧ j < l.length then v else l.getD j 0 := by
  rw [List.getD_eq_getElem?_getD, List.getD_eq_getElem?_getD, List.getElem?_set]
  by_cases h : i = j
  · subst h
    by_cases h2 : i < l.length
    · simp [h2]
    · simp [h2]
  · simp [h]
theorem ck0_ok (h0 : 0 ≤ soft0 ∧ soft0 < 18446744073709551616) {safe : List Wr} (hw : WOk safe) : CkOk safe.length 0 (ck0 soft0 safe) :=
  ⟨h0, ⟨Int.le_refl _, Int.le_refl _⟩, by simp [ck0], fun j => by
    have : (ck0 soft0 safe).seen.getD j 0 = 0 := by
      show (List.replicate 64 (0 : Int)).getD j 0 = 0
      rw [List.getD_eq_getElem?_getD, List.getElem?_replicate]
      split <;> rfl
    rw [this]
    exact ⟨Int.le_refl _, Int.le_refl _⟩, Nat.le_refl _, hw⟩
theorem ckStep_ok {n : Nat} {s : CK} (h0 : 0 ≤ soft0 ∧ soft0 < 18446744073709551616) (hp : c.2.2.length = 64) (h : CkOk n k s) : CkOk n (k + 1) (ckStep conv keep soft0 s c) := by
  have hS : ∀ b : Bool, (if b = true then s.safe ++ [c] else s.safe).length ≤ n + (k + 1) ∧ WOk (if b = true then s.safe ++ [c] else s.safe) := fun b => by
    have hs := h.safe
    cases b
    · exact ⟨by simp; omega, h.wok⟩
    · exact ⟨by simp; omega, wok_append h.wok (fun x hx => by rw [List.mem_singleton.1 hx]; exact hp)⟩
  have hb : 0 ≤ (if s.soft % 64 = 0 then soft0 else s.bits) ∧ (if s.soft % 64 = 0 then soft0 else s.bits) < 18446744073709551616 := by split; exact h0; exact h.bits
  have hso := h.soft
  unfold ckStep
  split
  · exact ⟨by dsimp only; omega, by dsimp only; omega, h.len, fun j => ⟨(h.seen j).1, by have := (h.seen j).2; dsimp only; omega⟩, (hS _).1, (hS _).2⟩
  · refine ⟨h.bits, by dsimp only; omega, by simp [h.len], fun j => ?_, (hS _).1, (hS _).2⟩
    dsimp only
    rw [getD_set_all]
    have := h.seen j
    have := h.seen c.1.toNat
    split <;> omega
theorem sAt_succ (hc : d.cached[k]? = some c) : sAt conv keep soft0 d (k + 1) = ckStep conv keep soft0 (sAt conv keep soft0 d k) c := by
  have hk : k < d.cached.length := (List.getElem?_eq_some_iff.1 hc).1
  have e : d.cached[k] = c := (List.getElem?_eq_some_iff.1 hc).2
  unfold sAt
  rw [List.take_succ_eq_append_getElem hk, ckAll_snoc, e]
theorem sAt_ok (h0 : 0 ≤ soft0 ∧ soft0 < 18446744073709551616) (hs : WOk d.safe) (hw : WOk d.cached) : ∀ k, k ≤ d.cached.length → CkOk d.safe.length k (sAt conv keep soft0 d k)
  | 0, _ => by unfold sAt; rw [List.take_zero]; exact ck0_ok h0 hs
  | k + 1, h => by
    have hc : d.cached[k]? = some (d.cached[k]'(by omega)) := List.getElem?_eq_getElem (by omega)
    rw [sAt_succ hc]
    exact ckStep_ok h0 (hw _ (List.getElem_mem _)) (sAt_ok h0 hs hw k (by omega))
theorem SAt_lt (h : k < d.cached.length) : SAt conv keep soft0 tear d k = (sAt conv keep soft0 d k).safe := by unfold SAt; rw [if_neg (by omega)]
theorem SAt_end : SAt conv keep soft0 tear d d.cached.length = safeK conv keep soft0 tear d := by unfold SAt; rw [if_pos rfl]
theorem SAt_zero : SAt conv keep soft0 tear d 0 = d.safe := by
  unfold SAt
  split
  · next h =>
    rw [safeK_nil (List.eq_nil_of_length_eq_zero h.symm), List.eq_nil_of_length_eq_zero h.symm]
    rfl
  · rfl
theorem SAt_succ (hc : d.cached[k]? = some c) : SAt conv keep soft0 tear d (k + 1) =
    if k + 1 = d.cached.length ∧ ckLeft conv keep soft0 (sAt conv keep soft0 d k) c = false ∧ ckNext conv keep (sAt conv keep soft0 d k) c = true ∧ 0 < tear then
      (ckStep conv keep soft0 (sAt conv keep soft0 d k) c).safe ++ [tornK conv tear d.safe (ckStep conv keep soft0 (sAt conv keep soft0 d k) c).safe c] else (ckStep conv keep soft0 (sAt conv keep soft0 d k) c).safe := by
  have hk : k < d.cached.length := (List.getElem?_eq_some_iff.1 hc).1
  have e : d.cached[k] = c := (List.getElem?_eq_some_iff.1 hc).2
  by_cases h : k + 1 = d.cached.length
  · have hd : d.cached = d.cached.take k ++ [c] := by
      have := List.take_succ_eq_append_getElem hk
      rw [e, h, List.take_length] at this
      exact this
    have hall : ckAll conv keep soft0 d.cached (ck0 soft0 d.safe) = ckStep conv keep soft0 (sAt conv keep soft0 d k) c := by
      conv => lhs; rw [hd]
      rw [ckAll_snoc]
      rfl
    rw [h, SAt_end, safeK_snoc hd, hall]
    show (if ckLeft conv keep soft0 (sAt conv keep soft0 d k) c = false ∧ ckNext conv keep (sAt conv keep soft0 d k) c = true ∧ 0 < tear then _ else _) = _
    by_cases h2 : ckLeft conv keep soft0 (sAt conv keep soft0 d k) c = false ∧ ckNext conv keep (sAt conv keep soft0 d k) c = true ∧ 0 < tear
    · rw [if_pos h2, if_pos ⟨rfl, h2⟩]
    · rw [if_neg h2, if_neg (fun h3 => h2 h3.2)]
  · unfold SAt
    rw [if_neg h, if_neg (fun h2 => h h2.1), sAt_succ hc]
theorem torn_wok {safe0 safe : List Wr} (hp : c.2.2.length = 64) (h0 : WOk safe0) (h : WOk safe) : (tornK conv tear safe0 safe c).2.2.length = 64 := by
  have hb : ∀ b : List Int, b.length = 64 → (c.2.2.take (min tear 64).toNat ++ b.drop (min tear 64).toNat).length = 64 := fun b hb => by
    rw [List.length_append, List.length_take, List.length_drop, hp, hb]
    omega
  unfold tornK
  refine hb _ ?_
  split
  · cases h1 : fnd safe c.pl with
    | some p => exact fnd_wok h h1
    | none =>
      cases h2 : fnd safe0 c.pl with
      | some p => exact fnd_wok h0 h2
      | none => rfl
  · rfl
theorem kp_no1 {z : Int} {j : Nat} (hj : z - conv = j) (h : ¬ j < keep.length) : kpOf conv keep z = 0 := by
  unfold kpOf
  rw [hj, Int.toNat_natCast, if_neg (fun h2 => h h2.1)]
theorem kp_no2 {z : Int} {j : Nat} (hj : z - conv = j) (h : keep.getD j 0 ≤ 0) : kpOf conv keep z = 0 := by
  unfold kpOf
  rw [hj, Int.toNat_natCast, if_neg (fun h2 => by have := h2.2; omega)]
theorem kp_yes {z : Int} {j : Nat} (hj : z - conv = j) (h : j < keep.length) (h2 : 0 < keep.getD j 0) : kpOf conv keep z = keep.getD j 0 := by
  unfold kpOf
  rw [hj, Int.toNat_natCast, if_pos ⟨h, h2⟩]
section
variable {s : CK} {zn : Nat} {o tz kp : Int} {p : List Int}
theorem ckLeft_seq (hz : ¬ (zn : Int) < conv) (h1 : s.seen.getD zn 0 = tz) (h2 : kpOf conv keep zn = kp) : ckLeft conv keep soft0 s ((zn : Int), o, p) = decide (tz < kp) := by
  unfold ckLeft
  dsimp only
  rw [if_neg hz, Int.toNat_natCast, h1, h2]
theorem ckNext_seq (hz : ¬ (zn : Int) < conv) (h1 : s.seen.getD zn 0 = tz) (h2 : kpOf conv keep zn = kp) : ckNext conv keep s ((zn : Int), o, p) = (tz == kp) := by
  unfold ckNext
  dsimp only
  rw [if_neg hz, Int.toNat_natCast, h1, h2]
theorem ckStep_left (hz : ¬ (zn : Int) < conv) (h1 : s.seen.getD zn 0 = tz) (h2 : kpOf conv keep zn = kp) (h : tz < kp) : ckStep conv keep soft0 s ((zn : Int), o, p) = ⟨s.bits, s.soft, s.seen.set zn (tz + 1), s.safe ++ [((zn : Int), o, p)]⟩ := by
  have hl := ckLeft_seq (soft0 := soft0) (o := o) (p := p) hz h1 h2
  rw [decide_eq_true h] at hl
  unfold ckStep
  rw [if_neg hz, hl]
  simp only [Int.toNat_natCast, h1, if_true]
theorem ckStep_not (hz : ¬ (zn : Int) < conv) (h1 : s.seen.getD zn 0 = tz) (h2 : kpOf conv keep zn = kp) (h : ¬ tz < kp) : ckStep conv keep soft0 s ((zn : Int), o, p) = ⟨s.bits, s.soft, s.seen.set zn (tz + 1), s.safe⟩ := by
  have hl := ckLeft_seq (soft0 := soft0) (o := o) (p := p) hz h1 h2
  rw [decide_eq_false h] at hl
  unfold ckStep
  rw [if_neg hz, hl]
  simp only [Int.toNat_natCast, h1]
  rfl
end
end Dev
end Go.Proofs.Ytkdhibjmfanhcaa

/-
  The map of what is kept, keyed by a block and a number: told by the list of its entries, so that its size is known too.
-/
import Derived.Test.YtjjomfpkdbfhdaaSnB
import Derived.Test.YtjjomfpkdbfhdaaMapsI
import Derived.Maps.RangeWalk
import Derived.Lib.SlMapFilter
namespace Go.Proofs.Ytjjomfpkdbfhdaa
open Go.RowKit Word Snap
set_option linter.unusedVariables false

theorem ch_law : Maps.Keyed Try.prog 66 := Maps.Keyed.of_law (deep_law_laid (by kernel_rfl) (m := 5) (by omega) (of_decide_eq_true (by kernel_rfl)) (by kernel_rfl) (by kernel_rfl))
abbrev chv (a : Int × Int) : Value := .agg #[.int .i64 a.1, .int .i64 a.2]
abbrev chl (a : Int × Int) : Lit := .string (keyBytes [.int .i64 a.1, .int .i64 a.2])
theorem keyOf_ch {a : Int × Int} (h1 : W64 a.1) (h2 : W64 a.2) : keyOf Try.prog 66 (chv a) = some (chl a) :=
  keyOf_two (m := Try.prog.types.size - 1) Try.underlying66 (by kernel_rfl) (by kernel_rfl) (by kernel_rfl) Try.underlying3 (by kernel_rfl) rfl rfl rfl rfl (by decide) (by decide) h1 h2
theorem ch_inj {a b : Int × Int} (ha : W64 a.1 ∧ W64 a.2) (hb : W64 b.1 ∧ W64 b.2) (h : chl a = chl b) : a = b := by
  have h1 := keyOf_ch ha.1 ha.2
  rw [h] at h1
  have := ch_law.inj h1 (keyOf_ch hb.1 hb.2)
  simp [chv] at this
  exact Prod.ext this.1 this.2
/-- an entry, as it reads -/
def enL (x : Kp) : Lit × DataW Value := (chl x.1, .held (wv x.2))
/-- as an entry must be -/
def Snap.KIn (x : Kp) : Prop := (W64 x.1.1 ∧ W64 x.1.2) ∧ OIn x.2.1
/-- block b is a map of at most n entries, that hold what the list tells -/
def MapL (w : World) (b n : Nat) (K : List Kp) : Prop :=
  ∃ es : List (Lit × DataW Value), w.ownsMap Try.prog 66 asIs b n (.map es) ∧ es.Perm (K.map enL) ∧ (K.Pairwise fun x y => x.1 ≠ y.1) ∧ ∀ x ∈ K, KIn x
section
variable {w w' : World} {b n : Nat} {K : List Kp}
theorem MapL.lt (h : MapL w b n K) : b < w.heap.size := by obtain ⟨D, h, _⟩ := h; exact h.lt
theorem MapL.same (h : MapL w b n K) (hb : w'.heap[b]? = w.heap[b]?) : MapL w' b n K := by
  obtain ⟨D, ⟨es, clock, h1, h2⟩, h3⟩ := h
  exact ⟨D, ⟨es, clock, hb.trans h1, h2⟩, h3⟩
theorem MapL.mono {m : Nat} (h : MapL w b n K) (hm : n ≤ m) : MapL w b m K := by
  obtain ⟨D, h, h3⟩ := h
  exact ⟨D, h.mono hm, h3⟩
theorem MapL.is_map (h : MapL w b n K) : ∃ es clock, w.heap[b]? = some (.map es clock) := by
  obtain ⟨D, ⟨es, clock, h1, h2⟩, h3⟩ := h
  exact ⟨es, clock, h1⟩
theorem MapL.made (w : World) : MapL (w.alloc (.map #[] 0)) w.heap.size 0 [] := ⟨_, World.ownsMap_made w _ _ _, by simp, List.Pairwise.nil, by simp⟩
theorem MapL.ins (h : MapL w b n K) : ∀ x ∈ K, KIn x := by obtain ⟨_, _, _, _, h⟩ := h; exact h
theorem MapL.size_le (h : MapL w b n K) : K.length ≤ n := by
  obtain ⟨es, hown, hp, _⟩ := h
  have := hown.size_le
  rw [Maps.size_eq, hp.length_eq, List.length_map] at this
  exact this
theorem MapL.len (h : MapL w b n K) {t e : TypeId} (ht : Try.prog.underlying t = some (.map 66 e)) (ty : TypeId) : (Builtin.len_ #[t] ty #[.map (some b)]).run Try.prog w = .ok (.int .i64 (K.length : Int)) w := by
  obtain ⟨es, hown, hp, _⟩ := h
  rw [hown.len ht ty, Maps.size_eq, hp.length_eq, List.length_map]
set_option maxRecDepth 100000 in
/-- it is there -/
theorem MapL.look_yes (h : MapL w b n K) {t : TypeId} (ht : Try.prog.underlying t = some (.map 66 63)) {a : Int × Int} {y : Ol × Int} (hm : (a, y) ∈ K) :
    (Instr.lookup t (.map (some b)) (chv a) true).run Try.prog w = .ok (.tuple #[wv y, .bool true]) w := by
  obtain ⟨es, hown, hp, hpw, hin⟩ := h
  obtain ⟨⟨h1, h2⟩, h3⟩ := hin _ hm
  have hkey := keyOf_ch h1 h2
  obtain ⟨v, ps, hrun, hv⟩ := hown.look_ok ch_law ht (zero_was w) (zd := .held (wv w0)) (zp := []) rfl hkey
  obtain ⟨es', he, hap, _⟩ := hown.entries ch_law
  obtain rfl : es = es' := by injection he
  have hmem : (chl a, (DataW.held (wv y) : DataW Value)) ∈ es := hp.mem_iff.2 (List.mem_map.2 ⟨_, hm, rfl⟩)
  rw [WideAt.atKey_mem _ (ch_law.key hkey) hap hmem] at hv
  have hv1 : DataW.held v = DataW.held (wv y) := congrArg Prod.fst (Option.some.inj hv)
  injection hv1 with hv1
  have hh : Maps.has (DataW.map es) (chl a) = true := by
    rw [Maps.has_eq]
    exact List.any_eq_true.2 ⟨_, hmem, WideAt.sameKey_self (ch_law.key hkey)⟩
  rw [hrun, hv1, hh]
set_option maxRecDepth 100000 in
/-- it isn't -/
theorem MapL.look_no (h : MapL w b n K) {t : TypeId} (ht : Try.prog.underlying t = some (.map 66 63)) {a : Int × Int} (h1 : W64 a.1) (h2 : W64 a.2) (hm : ∀ x ∈ K, x.1 ≠ a) :
    (Instr.lookup t (.map (some b)) (chv a) true).run Try.prog w = .ok (.tuple #[wv w0, .bool false]) w := by
  obtain ⟨es, hown, hp, hpw, hin⟩ := h
  have hkey := keyOf_ch h1 h2
  obtain ⟨v, ps, hrun, hv⟩ := hown.look_ok ch_law ht (zero_was w) (zd := .held (wv w0)) (zp := []) rfl hkey
  have hh : Maps.has (DataW.map es) (chl a) = false := by
    rw [Maps.has_eq]
    refine List.any_eq_false.2 fun p hpm hs => ?_
    obtain ⟨x, hx, rfl⟩ := List.mem_map.1 (hp.mem_iff.1 hpm)
    exact hm x hx (ch_inj (hin x hx).1 ⟨h1, h2⟩ (WideAt.sameKey_eq hs))
  rw [Maps.atKey_of_not_has hh] at hv
  have hv1 : DataW.held v = DataW.held (wv w0) := congrArg Prod.fst (Option.some.inj hv)
  injection hv1 with hv1
  rw [hrun, hv1, hh]
set_option maxRecDepth 100000 in
/-- one more -/
theorem MapL.store (h : MapL w b n K) {t : TypeId} (ht : Try.prog.underlying t = some (.map 66 63)) (hn : n < maxLen) {a : Int × Int} (h1 : W64 a.1) (h2 : W64 a.2) (y : Ol × Int) (hy : OIn y.1) (hm : ∀ x ∈ K, x.1 ≠ a) :
    ∃ w', (Instr.mapUpdate t (.map (some b)) (chv a) (wv y)).run Try.prog w = .ok () w' ∧ MapL w' b (n + 1) (K ++ [(a, y)]) ∧ w.mapTurned w' b := by
  obtain ⟨es, hown, hp, hpw, hin⟩ := h
  have hkey := keyOf_ch h1 h2
  obtain ⟨w', hrun, h3, h4⟩ := hown.store ch_law ht hn (ps := []) (d := .held (wv y)) hkey rfl
  refine ⟨w', hrun, ⟨_, h3, ?_, ?_, ?_⟩, h4⟩
  · have hf : es.filter (ChangeMaps.notKey (chl a)) = es := by
      refine List.filter_eq_self.2 fun p hpm => ?_
      obtain ⟨x, hx, rfl⟩ := List.mem_map.1 (hp.mem_iff.1 hpm)
      show (!(chl x.1).sameKey (chl a)) = true
      rw [Maps.sameKey_ne fun e => hm x hx (ch_inj (hin x hx).1 ⟨h1, h2⟩ e)]
      rfl
    show (DataW.insert (chl a, (DataW.held (wv y) : DataW Value)) (es.filter (ChangeMaps.notKey (chl a)))).Perm _
    rw [hf, List.map_append]
    refine (WideShapes.insert_perm _ _).trans ((hp.cons _).trans ?_)
    exact (List.perm_append_singleton _ _).symm
  · rw [List.pairwise_append]
    refine ⟨hpw, List.pairwise_singleton _ _, fun x hx z hz => ?_⟩
    obtain rfl := List.mem_singleton.1 hz
    exact hm x hx
  · intro x hx
    rcases List.mem_append.1 hx with hx | hx
    · exact hin x hx
    · obtain rfl := List.mem_singleton.1 hx
      exact ⟨⟨h1, h2⟩, hy⟩
/-- what is let go -/
theorem MapL.filtered {es : List (Lit × DataW Value)} {pd : Lit → DataW Value → Bool} {f : Kp → Bool} (hp : es.Perm (K.map enL)) (hpw : K.Pairwise fun x y => x.1 ≠ y.1) (hin : ∀ x ∈ K, KIn x) (hf : ∀ x ∈ K, (!pd (enL x).1 (enL x).2) = f x)
    (hown : w'.ownsMap Try.prog 66 asIs b n (Lib.deleteFuncD pd (.map es))) : MapL w' b n (K.filter f) := by
  refine ⟨_, hown, ?_, hpw.filter _, fun x hx => hin x (List.mem_filter.1 hx).1⟩
  refine (hp.filter _).trans ?_
  rw [List.filter_map]
  refine List.Perm.of_eq (congrArg _ (List.filter_congr fun x hx => ?_))
  exact hf x hx
end
/-! at the operation -/
section
variable (w : World) {ops : Array Oper} {rest : List Oper} {o : Oper} {a : Act} {Q : Exit → Act → World → Prop}
theorem wpList_ch_store (hg : o.guard = none) (m x v : Operand) (t : TypeId) (hop : o.op = Op.mapUpdate t m x v) (ht : Try.prog.underlying t = some (.map 66 63)) (b n : Nat) (K : List Kp)
    (hm : a.eval m = .map (some b)) (h : MapL w b n K) (hn : n < maxLen) (p : Int × Int) (hx : a.eval x = chv p) (h1 : W64 p.1) (h2 : W64 p.2) (y : Ol × Int) (hy : OIn y.1) (hf : ∀ x ∈ K, x.1 ≠ p) (hv : a.eval v = wv y)
    (hK : ∀ w', MapL w' b (n + 1) (K ++ [(p, y)]) → w.mapTurned w' b → wpList Try.prog ops Q rest (a.put o.dst undef) w') : wpList Try.prog ops Q (o :: rest) a w := by
  refine wpList_plain hg fun K' hK' => ?_
  obtain ⟨w', hrun, r1, r2⟩ := h.store ht hn h1 h2 y hy hf
  unfold Oper.wp
  simp [execOp, hop, hm, hx, hv, hrun, Result.andThen]
  exact hK' _ _ (hK w' r1 r2)
end
end Go.Proofs.Ytjjomfpkdbfhdaa

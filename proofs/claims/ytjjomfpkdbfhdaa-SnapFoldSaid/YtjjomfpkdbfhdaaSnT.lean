/-
  The law Fold of layer 17: what blocks were as of a commit, as plain mathematics; states of eight blocks in memory; steps opened.
-/
import Derived.Test.YtjjomfpkdbfhdaaSnP
import Derived.Test.YtjjomfpkdbfhdaaMid
namespace Go.Proofs.Ytjjomfpkdbfhdaa
open Go.RowKit Go.ChangeShapes Go.WideShapes Word Snap
set_option linter.unusedVariables false

namespace Snap
def val (o : Ol) : Bool × List Int := (o.has, o.data)
def at8 (N : List Ol) (b : Nat) : Ol := N.getD b ol0
abbrev last_ (H : List (List Ol)) (k : Nat) (b : Nat) : Bool × List Int := val (at8 (H.getD k []) b)
theorem rdF_snoc {all : List (List Ol)} {P : List Ol} {b : Int} {m : Nat} (h : m ≤ all.length) : rdF (all ++ [P]) b m = (rdF all b m).or (inn P b) := by
  unfold rdF
  rw [List.drop_append_of_le_length h, List.findSome?_append]
  congr 1
  simp
/-- what each block was behind each commit; what was read ahead of what is still open -/
structure Fold (N : List Ol) (H : List (List Ol)) (P : List Ol) (all : List (List Ol)) : Prop where
  len : H.length = all.length + 1
  nl : N.length = 8
  hl : ∀ S ∈ H, S.length = 8
  ni : ∀ o ∈ N, OIn o
  hi : ∀ S ∈ H, ∀ o ∈ S, OIn o
  pi : ∀ o ∈ P, OIn o
  back : ∀ b m : Nat, b < 8 → m ≤ all.length → last_ H m b = ((rdF all (b : Int) m).map val).getD (last_ H all.length b)
  pend : ∀ b : Nat, b < 8 → ((inn P (b : Int)).map val).getD (val (at8 N b)) = last_ H all.length b
abbrev n8 : List Ol := List.replicate 8 ol0
theorem Fold.start : Fold n8 [n8] [] [] := by
  refine ⟨rfl, by simp, by simp, ?_, ?_, by simp, fun b m hb hm => ?_, fun b hb => rfl⟩
  · intro o ho
    rw [List.eq_of_mem_replicate ho]
    exact ol0_in
  · intro S hS o ho
    rw [List.mem_singleton.1 hS] at ho
    rw [List.eq_of_mem_replicate ho]
    exact ol0_in
  · obtain rfl : m = 0 := by simpa using hm
    rfl
section
variable {N P : List Ol} {H all : List (List Ol)} {b : Nat}
theorem at8_in (h : ∀ o ∈ N, OIn o) : OIn (at8 N b) := by
  unfold at8
  rw [List.getD_eq_getElem?_getD]
  cases e : N[b]? with
  | none => exact ol0_in
  | some o => exact h o (List.mem_of_getElem? e)
/-- what a block was, told by its number -/
def told (N : List Ol) (b : Nat) : Ol := ⟨(b : Int), (at8 N b).has, (at8 N b).data⟩
theorem told_in (h : ∀ o ∈ N, OIn o) (hb : b < 8) : OIn (told N b) := ⟨(at8_in h).1, by
  have : (Lit.int .i64 (b : Int)).wf = true := w64_of (by omega) (by omega)
  exact this⟩
theorem Fold.write (F : Fold N H P all) (hb : b < 8) {o : Ol} (ho : OIn o) : Fold (N.set b o) H (P ++ [told N b]) all := by
  refine ⟨F.len, by simp [F.nl], F.hl, in_set F.ni ho, F.hi, fun x hx => ?_, F.back, fun b' hb' => ?_⟩
  · rcases List.mem_append.1 hx with hx | hx
    · exact F.pi x hx
    · rw [List.mem_singleton.1 hx]
      exact told_in F.ni hb
  · have h := F.pend b' hb'
    rw [inn_snoc]
    cases hi : inn P (b' : Int) with
    | some x =>
      rw [hi] at h
      exact h
    | none =>
      rw [hi] at h
      by_cases e : b = b'
      · subst e
        rw [if_pos (show (told N b).b = (b : Int) from rfl)]
        exact h
      · rw [if_neg (by show ¬ (b : Int) = (b' : Int); omega)]
        show val (at8 (N.set b o) b') = _
        have e2 : at8 (N.set b o) b' = at8 N b' := by
          unfold at8
          rw [List.getD_eq_getElem?_getD, List.getD_eq_getElem?_getD, List.getElem?_set_ne e]
        rw [e2]
        exact h
theorem Fold.commit (F : Fold N H P all) : Fold N (H ++ [N]) [] (all ++ [P]) := by
  have hlast : ∀ b, last_ (H ++ [N]) (all ++ [P]).length b = val (at8 N b) := fun b => by
    unfold last_
    rw [List.length_append, List.length_singleton, ← F.len]
    simp [List.getD]
  refine ⟨by simp [F.len], F.nl, ?_, F.ni, ?_, by simp, fun b m hb hm => ?_, fun b hb => ?_⟩
  · intro S hS
    rcases List.mem_append.1 hS with hS | hS
    · exact F.hl S hS
    · rw [List.mem_singleton.1 hS]
      exact F.nl
  · intro S hS
    rcases List.mem_append.1 hS with hS | hS
    · exact F.hi S hS
    · rw [List.mem_singleton.1 hS]
      exact F.ni
  · rw [hlast]
    rw [List.length_append, List.length_singleton] at hm
    by_cases e : m = all.length + 1
    · subst e
      have h1 := hlast b
      rw [List.length_append, List.length_singleton] at h1
      rw [h1, rdF_end (by simp)]
      rfl
    · have hm2 : m ≤ all.length := by omega
      have e2 : last_ (H ++ [N]) m b = last_ H m b := by
        unfold last_
        rw [List.getD, List.getElem?_append_left (by rw [F.len]; omega)]
        rfl
      rw [e2, rdF_snoc hm2, F.back b m hb hm2]
      cases hr : rdF all (b : Int) m with
      | some o => rfl
      | none =>
        have h := F.pend b hb
        show last_ H all.length b = _
        rw [← h]
        cases inn P (b : Int) <;> rfl
  · rw [hlast]
    rfl
theorem Fold.ends (F : Fold N H [] all) (hb : b < 8) {n : Nat} (hn : n < H.length) : val ((rdF all (b : Int) (from_ 0 (n : Int))).getD (at8 N b)) = val (at8 (H.getD n []) b) := by
  have e : from_ 0 (n : Int) = n := by unfold from_; omega
  have h := F.back b n hb (by rw [F.len] at hn; omega)
  rw [e]
  show _ = last_ H n b
  rw [h, ← F.pend b hb]
  cases rdF all (b : Int) n <;> rfl
end
/-- a step of a commit -/
structure Sp where
  blk : Int
  data : List Int
  trim : Bool
  more : Bool
def SIn (s : Sp) : Prop := s.data.length = 32 ∧ 0 ≤ s.blk ∧ s.blk ≤ 255
end Snap
def spcs (s : Sp) : List Value := .int .u8 s.blk :: (bs s.data ++ [.bool s.trim, .bool s.more])
def spls (l : List Sp) : List Value := l.flatMap spcs
theorem spcs_len {s : Sp} (h : SIn s) : (spcs s).length = 35 := by simp [spcs, bs_length, h.1]
theorem spls_cons (x : Sp) (l : List Sp) : spls (x :: l) = spcs x ++ spls l := rfl
theorem spls_at : ∀ {l : List Sp} {k j : Nat} {o : Sp} {v : Value}, (∀ o ∈ l, SIn o) → l[k]? = some o → (spcs o)[j]? = some v → (spls l)[k * 35 + j]? = some v
  | [], k, j, o, v, _, h, _ => by simp at h
  | g :: l, 0, j, o, v, hin, h, hv => by
    obtain rfl : g = o := by simpa using h
    have hj : j < (spcs g).length := (List.getElem?_eq_some_iff.1 hv).1
    rw [spls_cons, Nat.zero_mul, Nat.zero_add, List.getElem?_append_left hj]
    exact hv
  | g :: l, k + 1, j, o, v, hin, h, hv => by
    have h1 := spcs_len (hin g List.mem_cons_self)
    have := spls_at (l := l) (k := k) (j := j) (fun g hg => hin g (List.mem_cons_of_mem _ hg)) (by simpa using h) hv
    rw [spls_cons, List.getElem?_append_right (by omega), h1, show (k + 1) * 35 + j - 35 = k * 35 + j by omega]
    exact this
theorem sp_at {w : World} {B : Nat} {A : Option Addr} {l : List Sp} {k : Nat} {s : Sp} (h : Rd w B A (spls l)) (hin : ∀ o ∈ l, SIn o) (hk : l[k]? = some s) :
    ∃ ad, A = some ad ∧ ad.block < B ∧ ∀ j v, (spcs s)[j]? = some v → w.cell? ((ad.add (k * 35)).add j) = some v := by
  obtain ⟨ad, rfl, hb, hc⟩ := h.at (spls_at hin hk (j := 0) (v := .int .u8 s.blk) rfl)
  refine ⟨ad, rfl, hb, fun j v hv => ?_⟩
  rw [addr_add_add]
  obtain ⟨ad2, e2, _, h2⟩ := h.at (spls_at hin hk hv)
  obtain rfl : ad = ad2 := by injection e2
  exact h2
theorem spcs_data {s : Sp} (h : SIn s) {j : Nat} {v : Value} (hv : (bs s.data)[j]? = some v) : (spcs s)[1 + j]? = some v := by
  have hj := (List.getElem?_eq_some_iff.1 hv).1
  unfold spcs
  rw [Nat.add_comm, List.getElem?_cons_succ, List.getElem?_append_left hj]
  exact hv
theorem spcs_trim {s : Sp} (h : SIn s) : (spcs s)[33]? = some (.bool s.trim) := by
  unfold spcs
  rw [List.getElem?_cons_succ, List.getElem?_append_right (by rw [bs_length, h.1]; decide), bs_length, h.1]
  rfl
theorem spcs_more {s : Sp} (h : SIn s) : (spcs s)[34]? = some (.bool s.more) := by
  unfold spcs
  rw [List.getElem?_cons_succ, List.getElem?_append_right (by rw [bs_length, h.1]; decide), bs_length, h.1]
  rfl
abbrev shSp : Sh := .pair 1 (.int .u8) (.pair 32 (.rep 32 1 (.int .u8)) (.pair 1 .bool (.pair 1 .bool .nil)))
theorem rows_sps {w : World} : ∀ (rows : List (List Value)), (∀ r ∈ rows, r.length = 35 ∧ Has shSp w r) → ∃ ls : List Sp, ls.length = rows.length ∧ rows.flatten = spls ls ∧ ∀ l ∈ ls, SIn l
  | [], _ => ⟨[], rfl, rfl, fun l h => (List.not_mem_nil h).elim⟩
  | r :: rows, h => by
    obtain ⟨ls, h1, h2, h3⟩ := rows_sps rows fun x hx => h x (List.mem_cons_of_mem _ hx)
    obtain ⟨_, _, _, rfl, _, ⟨b, rfl, hb⟩, _, _, rfl, _, hd, _, _, rfl, _, ⟨t, rfl⟩, _, _, rfl, _, ⟨m, rfl⟩, rfl⟩ := h r List.mem_cons_self
    obtain ⟨ws, k1, rfl, k3⟩ := has_ints hd
    have hb2 : 0 ≤ b ∧ b ≤ 255 := by simpa [Lit.wf, IntKind.min, IntKind.max, IntKind.signed, IntKind.bits] using hb
    refine ⟨⟨b, ws, t, m⟩ :: ls, by simp [h1], ?_, ?_⟩
    · rw [List.flatten_cons, h2]
      simp [spls, spcs, bs]
    · intro l hl
      rcases List.mem_cons.1 hl with rfl | hl
      · exact ⟨k1, hb2⟩
      · exact h3 l hl
set_option maxRecDepth 100000 in
theorem open_steps {H : Type} {enc : TypeId × Value → H} {w : World} {base b0 : Nat} {r : Reach} {sp : Nat → Bool} {held : Bool} {v : Value} {d : DataW H} {ps : List MemPlace}
    (hu : Value.okWide Try.prog w r b0 47 v) (h : DataW.Trod enc Try.prog w base sp held 47 v d ps) :
    ∃ (A : Option Addr) (n cap : Nat) (ls : List Sp), v = .slice A n cap ∧ n ≤ maxLen ∧ ls.length = n ∧ (∀ l ∈ ls, SIn l) ∧ Rd w w.heap.size A (spls ls) := by
  obtain ⟨a, len, cap, rfl⟩ := okWide_slice Try.underlying47 hu
  have hs := has_of (s := .slice 35 shSp) 6 (by kernel_rfl) h
  obtain ⟨A, n, c, rows, h1, h2, h3, h4, h5, h6⟩ := hs
  obtain ⟨ls, h7, h8, h10⟩ := rows_sps rows h6
  have h9 : [Value.slice a len cap] = [.slice A n c] := h1
  obtain ⟨rfl, rfl, rfl⟩ : a = A ∧ len = n ∧ cap = c := by simpa using h9
  exact ⟨a, len, cap, ls, rfl, by omega, by omega, h10, by rw [← h8]; exact h5⟩

/-! eight blocks in memory -/
theorem lay_right {α : Type} (a c v : List α) (o : Nat) : lay (a ++ c) (a.length + o) v = a ++ lay c o v := by
  unfold lay
  rw [List.take_length_add_append, Nat.add_assoc, List.drop_length_add_append]
  simp
theorem ols_lay {o : Ol} (ho : OIn o) : ∀ (N : List Ol) (k : Nat), k < N.length → (∀ x ∈ N, OIn x) → lay (ols N) (k * 34) (ocs o) = ols (N.set k o)
  | [], k, h, _ => by simp at h
  | y :: N, 0, _, hin => by
    have hy := ocs_len (hin y List.mem_cons_self)
    rw [ols_cons]
    show lay (ocs y ++ ols N) 0 (ocs o) = ocs o ++ ols N
    unfold lay
    rw [List.take_zero, List.nil_append, Nat.zero_add, ocs_len ho, List.drop_append_of_le_length (by omega), List.drop_of_length_le (by omega), List.nil_append]
  | y :: N, k + 1, h, hin => by
    have hy := ocs_len (hin y List.mem_cons_self)
    rw [ols_cons, show (k + 1) * 34 = (ocs y).length + k * 34 by omega, lay_right, ols_lay ho N k (by simpa using h) fun x hx => hin x (List.mem_cons_of_mem _ hx)]
    rfl
theorem ols_lay_data {data : List Int} (hd : data.length = 32) : ∀ (N : List Ol) (k : Nat) (h : k < N.length), (∀ x ∈ N, OIn x) → lay (ols N) (k * 34 + 2) (bs data) = ols (N.set k ⟨(N[k]'h).b, (N[k]'h).has, data⟩)
  | [], k, h, _ => by simp at h
  | y :: N, 0, _, hin => by
    have hy := (hin y List.mem_cons_self).1
    rw [ols_cons]
    show lay (Value.int .i64 y.b :: .bool y.has :: (bs y.data ++ ols N)) 2 (bs data) = Value.int .i64 y.b :: .bool y.has :: (bs data ++ ols N)
    unfold lay
    rw [bs_length, hd]
    show [Value.int .i64 y.b, .bool y.has] ++ bs data ++ (bs y.data ++ ols N).drop 32 = _
    rw [List.drop_append_of_le_length (by rw [bs_length, hy]; omega), List.drop_of_length_le (by rw [bs_length, hy]; omega), List.nil_append]
    rfl
  | y :: N, k + 1, h, hin => by
    have hy := ocs_len (hin y List.mem_cons_self)
    rw [ols_cons, show (k + 1) * 34 + 2 = (ocs y).length + (k * 34 + 2) by omega, lay_right, ols_lay_data hd N k (by simpa using h) fun x hx => hin x (List.mem_cons_of_mem _ hx)]
    rfl
def wls (H : List (List Ol)) : List Value := H.flatMap ols
theorem wls_snoc (H : List (List Ol)) (N : List Ol) : wls (H ++ [N]) = wls H ++ ols N := by simp [wls]
theorem wls_at : ∀ {H : List (List Ol)} {n j : Nat} {S : List Ol} {v : Value}, (∀ S ∈ H, (ols S).length = 272) → H[n]? = some S → (ols S)[j]? = some v → (wls H)[n * 272 + j]? = some v
  | [], n, j, S, v, _, h, _ => by simp at h
  | g :: H, 0, j, S, v, hin, h, hv => by
    obtain rfl : g = S := by simpa using h
    have hj : j < (ols g).length := (List.getElem?_eq_some_iff.1 hv).1
    show (ols g ++ wls H)[_]? = _
    rw [Nat.zero_mul, Nat.zero_add, List.getElem?_append_left hj]
    exact hv
  | g :: H, n + 1, j, S, v, hin, h, hv => by
    have h1 := hin g List.mem_cons_self
    have := wls_at (H := H) (n := n) (j := j) (fun g hg => hin g (List.mem_cons_of_mem _ hg)) (by simpa using h) hv
    show (ols g ++ wls H)[_]? = _
    rw [List.getElem?_append_right (by omega), h1, show (n + 1) * 272 + j - 272 = n * 272 + j by omega]
    exact this
theorem ols8_len {N : List Ol} (h : N.length = 8) (hin : ∀ o ∈ N, OIn o) : (ols N).length = 272 := by rw [ols_length hin, h]
theorem zero_now (w : World) : (zeroValue 48).run Try.prog w = .ok (.agg (ols n8).toArray) w :=
  (zero_of_info (P := Try.prog) (t := 48) (v := .agg (ols n8).toArray) (n := 272) (by kernel_rfl)).1 w
theorem elemW : Elem Try.prog 49 48 (.agg (ols n8).toArray) 272 384 := Elem.of Try.underlying49 (by kernel_rfl) (by
  show (ols n8).toArray.size = 272
  rw [List.size_toArray]
  exact ols8_len (by simp) fun o ho => by rw [List.eq_of_mem_replicate ho]; exact ol0_in) (by decide)

/-! what the law has in hand -/
theorem row_tri {w : World} {d b c m base n s : Nat} {all : List (List Ol)} {g : Nat} {V : Value} {xs : List Value} {e : TypeId} (hne : 61 ≠ e) (t : SnIs w d b c m all g) (ho : w.ownsRow base e s V n xs) : ∀ k, V.ownBlock = some k → ¬ Tri d b c k := by
  intro k hk
  obtain ⟨_, cur, h1⟩ := own_type ho hk
  obtain ⟨f, hm, _⟩ := t.raw.ls
  rintro (h | h | h) <;> subst h
  · exact Box.ne_row t.raw.bx ho hk hne rfl
  · obtain ⟨es, ck, h2⟩ := hm.is_map
    rw [h1] at h2
    cases h2
  · obtain ⟨es, ck, h2⟩ := t.raw.kp.is_map
    rw [h1] at h2
    cases h2
theorem box_tri {w : World} {d b c m k : Nat} {all : List (List Ol)} {g : Nat} {cs : List Value} {e : TypeId} (hne : e ≠ 61) (t : SnIs w d b c m all g) (hb : Box w k e cs) : ¬ Tri d b c k := by
  obtain ⟨f, hm, _⟩ := t.raw.ls
  rintro (h | h | h)
  · exact Box.ne hb t.raw.bx hne h
  · exact hm.ne_box hb h
  · exact t.raw.kp.ne_box hb h
theorem Own.grown {w wr w' : World} {d b c m : Nat} {all : List (List Ol)} {g : Nat} {r : Option Nat} (h : Own w wr d b c m all g) (hg : wr.grownBy w' r) (hr : ∀ k, r = some k → ¬ Tri d b c k ∧ w.heap.size ≤ k) : Own w w' d b c m all g :=
  ⟨h.sn.beside (Fr.of_grown hg (T := fun k => r = some k) fun k e => e) (fun e => (hr _ e).1 (.inl rfl)) (fun e => (hr _ e).1 (.inr (.inl rfl))) (fun e => (hr _ e).1 (.inr (.inr rfl))), h.d, h.b, h.c, h.below.grown hg h.below.size fun k hk => (hr k hk).2⟩
structure FoSt (w wr : World) (d b c M nb base : Nat) (V9 V10 : Value) (N : List Ol) (H : List (List Ol)) (P : List Ol) (all : List (List Ol)) : Prop where
  sn : Own w wr d b c M all 0
  nw : Box wr nb 48 (ols N)
  ws : wr.ownsRow base 48 272 V9 H.length (wls H)
  op : wr.ownsRow base 38 34 V10 P.length (ols P)
  far : nb < base
  low : w.heap.size ≤ nb
  big : base ≤ wr.heap.size
section
variable {w wr w' : World} {d b c M M' nb base : Nat} {V9 V10 V : Value} {N N' P : List Ol} {H all all' : List (List Ol)} {o : Ol}
theorem FoSt.on (h : FoSt w wr d b c M nb base V9 V10 N H P all) (hb : Below wr.heap.size wr w') : FoSt w w' d b c M nb base V9 V10 N H P all :=
  ⟨h.sn.on hb, h.nw.on hb, own_below h.ws hb, own_below h.op hb, h.far, h.low, Nat.le_trans h.big hb.size⟩
theorem FoSt.now (h : FoSt w wr d b c M nb base V9 V10 N H P all) (hx : Box w' nb 48 (ols N')) (hg : wr.grownBy w' (some nb)) : FoSt w w' d b c M nb base V9 V10 N' H P all :=
  ⟨h.sn.grown hg fun k hk => by
      obtain rfl : nb = k := by injection hk
      exact ⟨box_tri (by decide) h.sn.sn h.nw, h.low⟩, hx, own_store h.ws hg h.far, own_store h.op hg h.far, h.far, h.low, Nat.le_trans h.big hg.size⟩
theorem rows_apart {w : World} {base base' n n' s s' : Nat} {e e' : TypeId} {V V' : Value} {xs xs' : List Value} (hne : e ≠ e') (h : w.ownsRow base e s V n xs) (h' : w.ownsRow base' e' s' V' n' xs') : ∀ b, V.ownBlock = some b → V'.ownBlock ≠ some b := by
  intro b hb hb'
  obtain ⟨_, cur, h1⟩ := own_type h hb
  obtain ⟨_, cur', h2⟩ := own_type h' hb'
  rw [h1] at h2
  injection h2 with h2
  injection h2 with _ h2
  exact hne h2
theorem row_beside {w w' : World} {base s n : Nat} {e : TypeId} {V : Value} {xs : List Value} {r : Option Nat} (h : w.ownsRow base e s V n xs) (hg : w.grownBy w' r) (hn : ∀ b, V.ownBlock = some b → r ≠ some b) : w'.ownsRow base e s V n xs := by
  refine h.kept hg ?_
  cases hv : V.ownBlock with
  | none => exact .inl rfl
  | some b => exact .inr fun e => hn b hv e.symm
theorem FoSt.opened (h : FoSt w wr d b c M nb base V9 V10 N H P all) (ho : w'.ownsRow base 38 34 V (P.length + 1) (ols P ++ ocs o)) (hg : wr.grownBy w' V10.ownBlock) : FoSt w w' d b c M nb base V9 V N H (P ++ [o]) all :=
  ⟨h.sn.grown hg fun k hk => ⟨row_tri (by decide) h.sn.sn h.op k hk, by have := (h.op.lt k hk).1; have := h.far; have := h.low; omega⟩,
    h.nw.same (hg.block _ h.nw.lt fun e => by have := (h.op.lt nb e.symm).1; have := h.far; omega),
    row_beside h.ws hg (fun k hk e => rows_apart (by decide) h.ws h.op k hk e), by rw [List.length_append, ols_append, ols_single]; exact ho, h.far, h.low, Nat.le_trans h.big hg.size⟩
theorem FoSt.grew (h : FoSt w wr d b c M nb base V9 V10 N H P all) (ho : w'.ownsRow base 48 272 V (H.length + 1) (wls H ++ ols N)) (hg : wr.grownBy w' V9.ownBlock) : FoSt w w' d b c M nb base V V10 N (H ++ [N]) P all :=
  ⟨h.sn.grown hg fun k hk => ⟨row_tri (by decide) h.sn.sn h.ws k hk, by have := (h.ws.lt k hk).1; have := h.far; have := h.low; omega⟩,
    h.nw.same (hg.block _ h.nw.lt fun e => by have := (h.ws.lt nb e.symm).1; have := h.far; omega), by rw [List.length_append, wls_snoc]; exact ho,
    row_beside h.op hg (fun k hk e => rows_apart (by decide) h.op h.ws k hk e), h.far, h.low, Nat.le_trans h.big hg.size⟩
theorem FoSt.commit (h : FoSt w wr d b c M nb base V9 V10 N H P all) (hs : SnIs w' d b c M' all' 0) (hf : Fr (Tri d b c) wr w') : FoSt w w' d b c M' nb base V9 (.slice none 0 0) N H [] all' :=
  ⟨h.sn.turn hs hf, h.nw.same (hf.same h.nw.lt (box_tri (by decide) h.sn.sn h.nw)), own_same h.ws fun k hk => hf.same (h.ws.lt k hk).2 (row_tri (by decide) h.sn.sn h.ws k hk), World.ownsRow_nil _ _ _ _, h.far, h.low, Nat.le_trans h.big hf.size⟩
theorem FoSt.opRd {A : Option Addr} {k : Nat} (h : FoSt w wr d b c M nb base V9 (.slice A P.length k) N H P all) : Rd wr wr.heap.size A (ols P) := Rd.own h.op
end
end Go.Proofs.Ytjjomfpkdbfhdaa

/-
  Package trans: copies of transactions and of ledgers.
-/
import Derived.Test.YtiljjgohmjimdaaTrF
import Derived.OwnWalk
import Derived.Laws.OwnMore
namespace Go.Proofs.Ytiljjgohmjimdaa
open Go.RowKit Word Tran
set_option linter.unusedVariables false

theorem isnil_wt (w : World) (a : Option Addr) (n c : Nat) : (binOp .eql 25 (.slice a n c) (.slice none 0 0)).run Try.prog w = .ok (.bool a.isNone) w := Lib.run_eql_slice_nil w _ _ a n c 0 0 Try.underlying25
set_option maxRecDepth 100000 in
set_option maxHeartbeats 4000000 in
theorem wclone_any (A : Option Addr) (n cap : Nat) (l : List Wt) (w : World) (hm : n ≤ 100000) (hn : l.length = n) (hin : ∀ o ∈ l, WIn o) (hr : Rd w w.heap.size A (tws l)) :
    Calls Try.prog 32 #[.slice A n cap] w fun e w' => ∃ V, e = .returned V ∧ w'.ownsRow w.heap.size 49 34 V n (tws l) ∧ Below w.heap.size w w' := by
  have qN := isnil_wt
  have HL := Lib.hid (show (tws l).length = n * 34 by rw [tws_length hin, hn])
  cases A with
  | none =>
    have h0 : n = 0 := by
      rcases Nat.eq_zero_or_pos n with h | h
      · exact h
      · obtain ⟨_, h1, _⟩ := wt_some (k := 0) hr hin (List.getElem?_eq_getElem (by omega))
        cases h1
    obtain rfl : l = [] := List.eq_nil_of_length_eq_zero (by omega)
    subst h0
    clear hr HL hn
    go_enter Try.func32, Try.ntmps32
    go_wp2_with fail
    go_ret
    exact ⟨_, rfl, World.ownsRow_nil _ _ _ _, Below.refl _ _⟩
  | some ad =>
    clear hn
    go_enter Try.func32, Try.ntmps32
    go_wp2_with (at_builtin; refine wpList_append_copy _ rfl _ _ _ rfl 49 _ 34 48 elemW rfl (some ad) n cap rfl (tws l) HL.out hr (tws_one l) (by simp only [maxLen]; omega) (by omega) ?_; intro A2 c2 w2 hown hb2)
    go_ret
    exact ⟨_, rfl, hown, hb2⟩
/-- what a transaction must be, to be copied -/
def TIn (t : Tn) : Prop := t.ws.length ≤ 10000 ∧ ∀ o ∈ t.ws, WIn o
set_option maxRecDepth 100000 in
set_option maxHeartbeats 4000000 in
theorem alone_any (x : Tv) (w : World) (hi : TIn x.t) (hr : Rd w w.heap.size x.A (tws x.t.ws)) :
    Calls Try.prog 24 #[tval x] w fun e w' => ∃ y : Tv, e = .returned (tval y) ∧ y.t = x.t ∧ w'.ownsRow w.heap.size 49 34 y.v y.t.ws.length (tws y.t.ws) ∧ Below w.heap.size w w' := by
  obtain ⟨⟨id, bg, ws⟩, A, cap⟩ := x
  have HI := Lib.hid (And.intro hi hr)
  clear hi hr
  go_enter Try.func24, Try.ntmps24
  go_wp2_with (first
    | ((with_reducible refine wpList_box_box _ (o := ⟨some 1, .box _ _, _, _, _, _⟩) rfl _ _ rfl (tnc ⟨⟨id, bg, ws⟩, A, cap⟩) rfl ?_); intro w1 x1 B1 s1)
    | ((with_reducible refine wpList_alloc_box _ (o := ⟨some 2, .alloc _, _, _, _, _⟩) rfl _ rfl (tnc tz) zero_tn ?_); intro w2 x2 B2 s2; obtain ⟨c0, c1, c2⟩ := tn_box (x1.on B2); rw [s1]; rw [s1] at x2; have H2 := Lib.hid (And.intro (bthen B1 B2) (And.intro (x1.on B2) x2)); clear x1 B1 s1 x2 B2 s2)
    | fail)
  refine (wclone_any A ws.length cap ws w2 (Nat.le_trans HI.out.1.1 (by decide)) rfl HI.out.1.2 ((HI.out.2.below H2.out.1).more H2.out.1.size)).mono ?_
  rintro e w3 ⟨V, rfl, hown, hb⟩
  obtain ⟨A3, c3, rfl⟩ := own_slice hown
  have x3 := H2.out.2.1.on hb
  have y3 := H2.out.2.2.on hb
  have hlt : w.heap.size < w2.heap.size := H2.out.2.1.lt
  have hg : w3.grownBy (w3.setCell ⟨w.heap.size, 2, none⟩ (.slice A3 ws.length c3)) (some w.heap.size) :=
    ⟨rfl, rfl, rfl, by simp, fun k _ hk => heap_setCell_other _ _ _ _ (by intro e; exact hk (by simp [e]))⟩
  have HE : Hid (Box (w3.setCell ⟨w.heap.size, 2, none⟩ (.slice A3 ws.length c3)) w.heap.size 27 (tnc ⟨⟨id, bg, ws⟩, A3, c3⟩) ∧ Box (w3.setCell ⟨w.heap.size, 2, none⟩ (.slice A3 ws.length c3)) (w.heap.size + 1) 27 (tnc tz) ∧
      (w3.setCell ⟨w.heap.size, 2, none⟩ (.slice A3 ws.length c3)).ownsRow w.heap.size 49 34 (.slice A3 ws.length c3) ws.length (tws ws) ∧ Below w.heap.size w (w3.setCell ⟨w.heap.size, 2, none⟩ (.slice A3 ws.length c3))) :=
    Lib.hid ⟨x3.set 2 _, y3.grown hg (by omega), own_base0 (trow_kept hown hg fun b hb e => by
      injection e with e
      have := (hown.lt b hb).1
      omega) H2.out.1.size, below_stored (bthen H2.out.1 hb) hg (bthen H2.out.1 hb).size (Nat.le_refl _)⟩
  obtain ⟨k0, k1, k2⟩ := tn_box HE.out.1
  have c2' : w3.cell? ⟨w.heap.size, 2, none⟩ = some (.slice A ws.length cap) := (tn_box x3).2.2
  have f2' : w3.frozen? ⟨w.heap.size, 2, none⟩ = false := x3.frozen 2
  clear x3 y3 hg hown hb c0 c1 c2 H2 hlt
  go_wp2_with (first
    | ((with_reducible refine wpList_store_var _ (o := ⟨none, .store _ (.tmp 2) _, _, _, _, _⟩) rfl 27 _ _ rfl (w.heap.size + 1) (tnc ⟨⟨id, bg, ws⟩, A3, c3⟩) (tnc tz) (tn_size _) rfl (tnc_one _) rfl rfl HE.out.2.1 ?_); go_loud (intro w7 x7 hg7))
    | fail)
  have HO := trow_kept HE.out.2.2.1 hg7 fun b hb e => by
    injection e with e
    subst e
    exact ttypes_box HE.out.2.1 HE.out.2.2.1 hb
  have HB := below_stored HE.out.2.2.2 hg7 HE.out.2.2.2.size (by omega)
  obtain ⟨j0, j1, j2⟩ := tn_box x7
  exact bodyPost_ret (v := tval ⟨⟨id, bg, ws⟩, A3, c3⟩) (by simp [results, Try.results24, go_sem, j0, j1, j2, tnc]) rfl ⟨_, rfl, rfl, HO, HB⟩

/-! rows of transactions, one of them laid anew -/
theorem own_lay {P : Program} {w : World} {base g n cap size off : Nat} {e t : TypeId} {xs vs : List Value} (h : w.ownsRow base e size (.slice (some ⟨g, 0, none⟩) n cap) n xs) (hl : off + vs.length ≤ n * size) (h1 : ∀ u ∈ vs, u.oneCell' = true) (hsz : (P.info? t).map (·.size) = some vs.length) :
    ∃ w', (storeVar t ⟨g, off, none⟩ (.agg vs.toArray)).run P w = .ok () w' ∧ w'.ownsRow base e size (.slice (some ⟨g, 0, none⟩) n cap) n (lay xs off vs) ∧ w.grownBy w' (some g) := by
  rcases h.2 with ⟨h', _⟩ | ⟨g', cap', cur, h', hb, hg, hnc, hcm, hcs, htake⟩
  · cases h'
  · injection h' with e1 e2 e3
    injection e1 with e1
    injection e1 with e1
    subst e1 e3
    have hmul := Nat.mul_le_mul_right size hnc
    have hbx : Box w g e cur.toList := by show _ = _; simpa using hg
    have hm := mid_heap (P := P) w hbx h1 (off := off) (by simp; omega)
    obtain ⟨b1, b2, _⟩ := mid_setRow w (cs' := lay cur.toList off vs) hbx
    refine ⟨_, ?_, ⟨?_, .inr ⟨g, cap, (lay cur.toList off vs).toArray, rfl, hb, b1, hnc, hcm, ?_, ?_⟩⟩, b2⟩
    · cases hq : P.info? t with
      | none => simp [hq] at hsz
      | some i =>
        have hs : i.size = vs.length := by simpa [hq] using hsz
        simpa [storeVar, sizeOf, typeInfo, hq, Value.cells, hs] using hm
    · rw [lay_length (by rw [h.1]; exact hl), h.1]
    · rw [List.size_toArray, lay_length (by simp; omega)]; simpa using hcs
    · have e : (lay cur.toList off vs).toArray.toList = lay cur.toList off vs := by simp
      rw [e, ← htake]
      apply List.ext_getElem?
      intro k
      have hlc : off + vs.length ≤ cur.toList.length := by simp; omega
      have hlt : off + vs.length ≤ (cur.toList.take (n * size)).length := by simp; omega
      rw [List.getElem?_take]
      by_cases hk : k < n * size
      · rw [if_pos hk]
        by_cases h2 : k < off
        · rw [lay_low hlc h2, lay_low hlt h2, List.getElem?_take, if_pos hk]
        · by_cases h3 : off + vs.length ≤ k
          · rw [lay_high hlc h3, lay_high hlt h3, List.getElem?_take, if_pos hk]
          · obtain ⟨j, rfl⟩ : ∃ j, k = off + j := ⟨k - off, by omega⟩
            rw [lay_in hlc (by omega), lay_in hlt (by omega)]
      · rw [if_neg hk]
        symm
        apply List.getElem?_eq_none
        rw [lay_length hlt]
        simp
        omega
theorem wpList_store_own {P : Program} {w : World} {ops : Array Oper} {rest : List Oper} {o : Oper} {a : Act} {Q : Exit → Act → World → Prop} (hgd : o.guard = none) (t : TypeId) (x y : Operand) (ho : o.op = .store t x y) (base g n cap size off : Nat) (e : TypeId) (xs vs : List Value)
    (hsz : (P.info? t).map (·.size) = some vs.length) (hl : off + vs.length ≤ n * size) (h1 : ∀ u ∈ vs, u.oneCell' = true) (hx : a.eval x = .pointer (some ⟨g, off, none⟩)) (hy : a.eval y = .agg vs.toArray) (hown : w.ownsRow base e size (.slice (some ⟨g, 0, none⟩) n cap) n xs)
    (h : ∀ w', w'.ownsRow base e size (.slice (some ⟨g, 0, none⟩) n cap) n (lay xs off vs) → w.grownBy w' (some g) → wpList P ops Q rest (a.put o.dst undef) w') : wpList P ops Q (o :: rest) a w := by
  refine wpList_plain hgd fun K hK => ?_
  obtain ⟨w', hr, h2, h3⟩ := own_lay (P := P) (t := t) hown hl h1 hsz
  unfold Oper.wp execOp
  simp only [ho, hx, hy, Instr.storeAt, Instr.sureAddr, Sem.run_bind, Sem.run_pure, Result.andThen_ok, hr]
  exact hK _ _ (h w' h2 h3)
theorem tns_lay : ∀ (l : List Tv) (k : Nat) (x : Tv), k < l.length → lay (tns l) (k * 3) (tnc x) = tns (l.set k x)
  | [], _, _, h => by simp at h
  | y :: l, 0, x, _ => by
    rw [tns_cons]
    rfl
  | y :: l, k + 1, x, h => by
    have ih := tns_lay l k x (by simpa using h)
    rw [List.set_cons_succ, tns_cons, tns_cons, ← ih]
    unfold lay
    rw [show (k + 1) * 3 = k * 3 + 1 + 1 + 1 by omega]
    have e3 : (tnc x).length = 3 := rfl
    rw [e3, show k * 3 + 1 + 1 + 1 + 3 = k * 3 + 3 + 1 + 1 + 1 by omega]
    rfl
theorem pairwise_set {α : Type} {R : α → α → Prop} {l : List α} {k : Nat} {x : α} (h : l.Pairwise R) (h1 : ∀ y ∈ l, R x y) (h2 : ∀ y ∈ l, R y x) : (l.set k x).Pairwise R := by
  rw [List.pairwise_iff_getElem] at h ⊢
  intro i j hi hj hij
  rw [List.getElem_set, List.getElem_set]
  split
  · split
    · omega
    · exact h1 _ (List.getElem_mem _)
  · split
    · exact h2 _ (List.getElem_mem _)
    · exact h i j _ _ hij
/-- one of them laid anew -/
theorem TOwn.set {w w' : World} {base g n c k B : Nat} {l : List Tv} {x : Tv} (h : TOwn w base (.slice (some ⟨g, 0, none⟩) n c) l) (hx : w.ownsRow B 49 34 x.v x.t.ws.length (tws x.t.ws)) (hB : base ≤ B) (hfar : ∀ y ∈ l, ∀ b, y.v.ownBlock = some b → b < B)
    (hg : w.grownBy w' (some g)) (hr : w'.ownsRow base 27 3 (.slice (some ⟨g, 0, none⟩) n c) l.length (tns (l.set k x))) : TOwn w' base (.slice (some ⟨g, 0, none⟩) n c) (l.set k x) := by
  have hx0 := own_base0 hx hB
  refine ⟨by rw [List.length_set]; exact hr, fun y hy => ?_, pairwise_set h.apart (fun y hy b hb e => ?_) (fun y hy b hb e => ?_)⟩
  · rcases List.mem_or_eq_of_mem_set hy with hy | rfl
    · exact trow_kept (h.each y hy) hg fun b hb e => ttypes_apart h.row (h.each y hy) b e hb
    · exact trow_kept hx0 hg fun b hb e => ttypes_apart h.row hx0 b e hb
  · have h1 := hfar y hy b e
    have h2 := (hx.lt b hb).1
    omega
  · have h1 := hfar y hy b hb
    have h2 := (hx.lt b e).1
    omega
theorem made_tns (n : Nat) : (madeCells (Value.agg (tnc tz).toArray).cells (n * 3)).toList = tns (List.replicate n tz) := by
  apply List.ext_getElem?
  intro j
  have hl : (tns (List.replicate n tz)).length = n * 3 := by rw [tns_length]; simp
  by_cases hj : j < n * 3
  · have hk : (List.replicate n tz)[j / 3]? = some tz := by rw [List.getElem?_replicate, if_pos (by omega)]
    have hd : (tnc tz)[j % 3]? = some ((tnc tz)[j % 3]'(by show _ < 3; omega)) := List.getElem?_eq_getElem _
    have h := tns_at hk hd
    rw [show j / 3 * 3 + j % 3 = j by omega] at h
    rw [h]
    have e : (Value.agg (tnc tz).toArray).cells = (tnc tz).toArray := rfl
    have hlt : j % 3 < (tnc tz).length := by show _ < 3; omega
    simp only [madeCells, e, List.size_toArray, Array.toList_map, List.getElem?_map, Array.toList_range, List.getElem?_range hj, Option.map_some, show (tnc tz).length = 3 from rfl]
    rw [getElem!_pos _ _ (by simpa using hlt)]
    simp
  · rw [List.getElem?_eq_none (by rw [Array.length_toList, size_madeCells]; omega), List.getElem?_eq_none (by omega)]
theorem TOwn.zeros {w : World} {base g n c : Nat} (h : w.ownsRow base 27 3 (.slice (some ⟨g, 0, none⟩) n c) n (tns (List.replicate n tz))) : TOwn w base (.slice (some ⟨g, 0, none⟩) n c) (List.replicate n tz) := by
  refine ⟨by rw [List.length_replicate]; exact h, fun y hy => ?_, ?_⟩
  · rw [(List.mem_replicate.1 hy).2]
    exact World.ownsRow_nil _ _ _ _
  · rw [List.pairwise_iff_getElem]
    intro i j hi hj _ b hb
    rw [List.getElem_replicate] at hb
    cases hb
end Go.Proofs.Ytiljjgohmjimdaa

/-
  A region that draws its order, in which one variable is made at whatever time, whose other operations but for a forced tail read cells that stay, with callees that only make memory. Nothing here speaks of one program.
-/
import Derived.Test.YtjjomfpkdbfhdaaTail
import Derived.Test.YtjjomfpkdbfhdaaBig
namespace Go.Proofs.Ytjjomfpkdbfhdaa
open Go.RowKit Go
set_option linter.unusedVariables false

def plainOp (o : Oper) : Bool := match o.op with
  | .call _ | .go _ | .defer _ | .send .. | .recv .. | .select .. | .nilCheck _ => false
  | _ => true
theorem no_enter {P : Program} {ρ : Operand → Value} {o : Oper} {w w' : World} {f : FuncId} {args : Array Value} (hc : plainOp o = true) : (execOp ρ o).run P w ≠ .ok (.enter f args) w' := by
  intro h
  have hv : ∀ s : Sem Value, ((do pure (Next.value (← s)) : Sem Next)).run P w = .ok (.enter f args) w' → False := fun s h => by
    simp only [Sem.run_bind, Sem.run_pure] at h
    cases hs : s.run P w <;> rw [hs] at h <;> simp [Result.andThen] at h
  have hu : ∀ s : Sem Unit, ((do s; pure Next.skip : Sem Next)).run P w = .ok (.enter f args) w' → False := fun s h => by
    simp only [Sem.run_bind, Sem.run_pure] at h
    cases hs : s.run P w <;> rw [hs] at h <;> simp [Result.andThen] at h
  unfold execOp at h
  unfold plainOp at hc
  cases hop : o.op <;> rw [hop] at h hc <;> simp only [] at h hc
  all_goals first | exact hv _ h | exact hu _ h | (simp at hc; done) | (simp at h; done) | skip
  case pick c x y =>
    simp only [Sem.run_bind, Sem.run_pure] at h
    cases hs : (asBool (ρ c)).run P w <;> rw [hs] at h <;> simp [Result.andThen] at h

section
variable {P : Program} {ops : Array Oper} {md : Region.Mode} {S : World → Prop}

/-- what an operation yields, in every world of the class: a callee only makes memory -/
def upR (P : Program) (w : World) (v : Value) : Result Next → Prop
  | .ok (.value u) w' => w' = w ∧ u = v
  | .ok .skip w' => w' = w ∧ v = undef
  | .ok (.enter f args) w' => w' = w ∧ Calls P f args w (fun e w'' => e = .returned v ∧ Below w.heap.size w w'')
  | _ => False
def quietR (P : Program) (o : Oper) (a : Act) (S : World → Prop) (v : Value) : Prop := ∀ w, S w → upR P w v ((execOp a.eval o).run P w)
def wpR (P : Program) (ops : Array Oper) (S : World → Prop) (Q : Act → Prop) : List Oper → Act → Prop
  | [], a => Q a
  | o :: rest, a => if Region.wanted o (yielded ops a.tmps) then ∃ v, quietR P o a S v ∧ wpR P ops S Q rest (a.put o.dst v) else wpR P ops S Q rest (a.put o.dst undef)
def qR (P : Program) (ops : Array Oper) (S : World → Prop) (i : Nat) (K : Act → Prop) (a : Act) : Prop :=
  match ops[i]? with
  | none => K a
  | some o => if Region.wanted o (yielded ops a.tmps) then ∃ v, quietR P o a S v ∧ K (a.put o.dst v) else K (a.put o.dst undef)
theorem qR_mono {i : Nat} {a : Act} {K K' : Act → Prop} (h : ∀ a, K a → K' a) (hh : qR P ops S i K a) : qR P ops S i K' a := by
  unfold qR at *
  split
  · exact h _ (by simpa [*] using hh)
  · rename_i o ho
    simp only [ho] at hh
    split
    · rename_i hw; simp only [hw, if_true] at hh; obtain ⟨v, h1, h2⟩ := hh; exact ⟨v, h1, h _ h2⟩
    · rename_i hw; simp only [hw] at hh; exact h _ hh
def YieldsR (P : Program) (ops : Array Oper) (S : World → Prop) (o : Oper) (v : Value) (a : Act) : Prop :=
  (Region.wanted o (yielded ops a.tmps) = true ∧ quietR P o a S v) ∨ (Region.wanted o (yielded ops a.tmps) = false ∧ v = undef)
theorem YieldsR.qR {i : Nat} {o : Oper} {v : Value} {a : Act} (hi : ops[i]? = some o) (hy : YieldsR P ops S o v a) {K : Act → Prop} (h : K (a.put o.dst v)) : qR P ops S i K a := by
  unfold Proofs.Ytjjomfpkdbfhdaa.qR
  simp only [hi]
  rcases hy with ⟨hw, hv⟩ | ⟨hw, rfl⟩
  · simp only [hw, if_true]; exact ⟨v, hv, h⟩
  · simp only [hw, Bool.false_eq_true, if_false]; exact h
theorem YieldsR.of_same {o : Oper} {v : Value} {a a' : Act} (hy : YieldsR P ops S o v a) (he : execOp a'.eval o = execOp a.eval o) (hw : Region.wanted o (yielded ops a'.tmps) = Region.wanted o (yielded ops a.tmps)) : YieldsR P ops S o v a' := by
  unfold YieldsR quietR at *
  rw [he, hw]
  exact hy
theorem yieldsR_of_qR {i : Nat} {o : Oper} {a : Act} {K : Act → Prop} (hi : ops[i]? = some o) (h : qR P ops S i K a) : ∃ v, YieldsR P ops S o v a ∧ K (a.put o.dst v) := by
  unfold Proofs.Ytjjomfpkdbfhdaa.qR at h
  simp only [hi] at h
  by_cases hw : Region.wanted o (yielded ops a.tmps) = true
  · simp only [hw, if_true] at h
    obtain ⟨v, h1, h2⟩ := h
    exact ⟨v, .inl ⟨hw, h1⟩, h2⟩
  · simp only [hw] at h
    exact ⟨undef, .inr ⟨by simpa using hw, rfl⟩, h⟩
theorem qR_put {j : Nat} {oi oj : Oper} {v : Value} (hj : ops[j]? = some oj) (hap : oi.apart ops oj = true) (hsi : ∀ cs b, oi.op ≠ .select cs b) (hsj : ∀ cs b, oj.op ≠ .select cs b) {K : Act → Prop} {a : Act}
    (hy : YieldsR P ops S oi v a) (h : qR P ops S j K (a.put oi.dst v)) : qR P ops S j (fun a' => YieldsR P ops S oi v a' ∧ K (a'.put oi.dst v)) a := by
  obtain ⟨h1, h2, h3⟩ := Oper.apart_spec hap
  have keep : ∀ (a : Act), YieldsR P ops S oi v a → ∀ u, YieldsR P ops S oi v (a.put oj.dst u) := fun a hy u =>
    hy.of_same (execOp_put oi hsi a oj.dst u h3) (wanted_put oi a oj.dst u h3)
  unfold Proofs.Ytjjomfpkdbfhdaa.qR at *
  simp only [hj] at *
  rw [wanted_put oj a oi.dst v h1] at h
  split
  · rename_i hw
    simp only [hw, if_true] at h
    obtain ⟨u, hu, hn⟩ := h
    refine ⟨u, fun w hw' => ?_, keep a hy u, by rw [← Act.put_comm a v u h2]; exact hn⟩
    have := hu w hw'
    rwa [execOp_put oj hsj a oi.dst v h1] at this
  · rename_i hw
    simp only [hw] at h
    exact ⟨keep a hy _, by rw [← Act.put_comm a v undef h2]; exact h⟩
def headR (P : Program) (md : Region.Mode) (ops : Array Oper) (S : World → Prop) (n : Nat) (L : Array Bool → Act → Prop) : Nat → Array Bool → Act → Prop
  | 0, listed, a => L listed a
  | f + 1, listed, a => Region.ready md ops listed ≠ [] ∧ ∀ i ∈ Region.ready md ops listed, i < n ∧ qR P ops S i (headR P md ops S n L f (listed.setIfInBounds i true)) a
theorem headR_first {n i : Nat} {oi : Oper} {v : Value} {L : Array Bool → Act → Prop} (hi : ops[i]? = some oi) (hsel : ∀ (j : Nat) (o : Oper) cs b, ops[j]? = some o → o.op ≠ .select cs b)
    (hs : Region.sinkB md ops n = true) (hc : Region.chainB md ops n = true) (hn : n < ops.size) (hin : i < n) (hdone : ∀ listed a, L listed a → ∀ j ∈ Region.ready md ops listed, n ≤ j) :
    ∀ (f : Nat) (listed : Array Bool) (a : Act), HeadInv md ops n listed →
      (∀ j oj, ops[j]? = some oj → j ≠ i → listed.getD j true = false → (∀ e ∈ oj.after, Region.binds md e = true → e.on ≠ i) → oi.apart ops oj = true) →
      i ∈ Region.ready md ops listed → YieldsR P ops S oi v a → headR P md ops S n L f (listed.setIfInBounds i true) (a.put oi.dst v) → headR P md ops S n L (f + 1) listed a := by
  intro f
  induction f with
  | zero =>
    intro listed a inv _ hr hy H
    have hun := (mem_ready.1 hr).1
    refine ⟨fun h => (by rw [h] at hr; cases hr), fun j hj => ?_⟩
    have hjn : j < n := Nat.lt_of_not_le fun h => tail_waits hs hc hn inv _ i rfl hin hun j h hj
    refine ⟨hjn, ?_⟩
    by_cases hji : j = i
    · subst hji; exact hy.qR hi H
    · have := hdone _ _ H j (ready_mono hj hji)
      omega
  | succ f ih =>
    intro listed a inv hfree hr hy H
    have hun := (mem_ready.1 hr).1
    refine ⟨fun h => (by rw [h] at hr; cases hr), fun j hj => ?_⟩
    have hjn : j < n := Nat.lt_of_not_le fun h => tail_waits hs hc hn inv _ i rfl hin hun j h hj
    refine ⟨hjn, ?_⟩
    by_cases hji : j = i
    · subst hji; exact hy.qR hi H
    · have h1 := (H.2 j (ready_mono hj hji)).2
      obtain ⟨hjun, oj, hoj, hall⟩ := mem_ready.1 hj
      have hnot : ∀ e ∈ oj.after, Region.binds md e = true → e.on ≠ i := fun e he hb heq => by
        have h1 := hall e he hb
        rw [heq, getD_both hun] at h1
        cases h1
      have h2 := qR_put hoj (hfree j oj hoj hji hjun hnot) (fun cs b => hsel i oi cs b hi) (fun cs b => hsel j oj cs b hoj) hy h1
      have hfree' : ∀ k ok, ops[k]? = some ok → k ≠ i → (listed.setIfInBounds j true).getD k true = false →
          (∀ e ∈ ok.after, Region.binds md e = true → e.on ≠ i) → oi.apart ops ok = true := fun k ok hk hki hun hno => by
        refine hfree k ok hk hki ?_ hno
        by_cases hjk : j = k
        · subst hjk; exact hjun
        · rw [getD_set_ne true hjk] at hun; exact hun
      refine qR_mono (fun a' h3 => ih (listed.setIfInBounds j true) a' (inv.set hj hjn) hfree' (ready_mono hr (Ne.symm hji)) h3.1 ?_) h2
      rw [Array.setIfInBounds_comm _ _ hji]
      exact h3.2

/-- the head but for the variable, one by one; then the tail -/
def headA (md : Region.Mode) (ops : Array Oper) (g : Nat) : Nat → Nat → Array Bool → Bool
  | 0, k, listed => Region.seqB md ops g (k + 1) listed
  | f + 1, k, listed => (Region.ready md ops listed).contains k && Region.free md ops listed k && headA md ops g f (k + 1) (listed.setIfInBounds k true)
def allocB (md : Region.Mode) (ops : Array Oper) (t : Nat) : Bool :=
  Region.noSelect ops && decide (t + 1 < ops.size) && Region.sinkB md ops (t + 1) && Region.chainB md ops (t + 1) &&
    (match ops[t]? with
      | some ot => ot.after.isEmpty && (List.range t).all fun i => match ops[i]? with | some oi => ot.apart ops oi | none => true
      | none => false) &&
    headA md ops (ops.size - (t + 1)) t 0 ((Array.replicate ops.size false).setIfInBounds t true)
theorem headR_lex {t g : Nat} {Lq : Act → Prop} (hsel : Region.noSelect ops = true) (hs : Region.sinkB md ops (t + 1) = true) (hc : Region.chainB md ops (t + 1) = true) (hn : t + 1 < ops.size) :
    ∀ (l : List Oper) (k : Nat) (listed : Array Bool) (a : Act), (∀ j, j < l.length → l[j]? = ops[k + j]?) → k + l.length = t → HeadInv md ops (t + 1) listed →
    headA md ops g l.length k listed = true → wpR P ops S Lq l a → headR P md ops S (t + 1) (fun listed' a' => Region.seqB md ops g (t + 1) listed' = true ∧ Lq a') l.length listed a
  | [], k, listed, a, _, hk, _, hB, h => by
    have : k = t := by simpa using hk
    subst this
    exact ⟨by simpa [headA] using hB, h⟩
  | o :: l, k, listed, a, hl, hk, inv, hB, h => by
    have h0 : ops[k]? = some o := by simpa using (hl 0 (by simp)).symm
    simp only [List.length_cons, headA, Bool.and_eq_true] at hB
    obtain ⟨⟨hr, hf⟩, hB'⟩ := hB
    have hkn : k < t + 1 := by simp only [List.length_cons] at hk; omega
    have hr' : k ∈ Region.ready md ops listed := by simpa using hr
    have hst : qR P ops S k (wpR P ops S Lq l) a := by unfold qR; simp only [h0]; exact h
    obtain ⟨v, hy, hK⟩ := yieldsR_of_qR h0 hst
    exact headR_first h0 (Region.noSelect_spec hsel) hs hc hn hkn (fun listed' a' hL => seqB_ready hL.1) l.length listed a inv (Region.free_spec h0 hf) hr' hy
      (headR_lex hsel hs hc hn l (k + 1) _ _ (fun j hj => by have := hl (j + 1) (by simp; omega); simpa [Nat.add_assoc, Nat.add_comm 1 j] using this) (by simp only [List.length_cons] at hk; omega) (inv.set hr' hkn) hB' hK)

theorem wp_of_quietR {o : Oper} {a : Act} {v : Value} {K : Act → World → Prop} {Q' : Exit → Act → World → Prop} {w : World} (hq : quietR P o a S v) (hw : S w) (h : ∀ w', Below w.heap.size w w' → K (a.put o.dst v) w') : o.wp P a w K Q' := by
  have h3 := hq w hw
  unfold Oper.wp
  generalize (execOp a.eval o).run P w = r at *
  cases r with
  | ok n w' =>
    cases n <;> simp only [upR] at h3 <;> simp only [Oper.upon]
    case value u =>
      obtain ⟨e1, e2⟩ := h3
      rw [e1, e2]
      exact h _ (Below.refl _ _)
    case skip =>
      obtain ⟨e1, e2⟩ := h3
      rw [e1, ← e2]
      exact h _ (Below.refl _ _)
    case enter f args =>
      obtain ⟨e1, hc⟩ := h3
      rw [e1]
      exact hc.mono fun e w'' ⟨he, hw''⟩ => by subst he; exact h _ hw''
  | halt x w' => simp only [upR] at h3

section
variable {T : TypeId} {cs : List Value} {d t g : Nat} {ot : Oper} {L : Array Bool → Act → Prop} {Q' : Exit → Act → World → Prop}
/-- the variable is made -/
theorem any_made (hSB : ∀ w w', S w → Below w.heap.size w w' → S w') (hsel : ∀ (j : Nat) (o : Oper) cs b, ops[j]? = some o → o.op ≠ .select cs b) (hot : ops[t]? = some ot) (hod : ot.dst = some d) (hap : ∀ i oi, ops[i]? = some oi → i < t → ot.apart ops oi = true)
    (hL : ∀ listed a, L listed a → ∀ b w, (∃ w0, S w0 ∧ w0.heap.size = b) → S w → Box w b T cs → wpAny P md ops Q' g listed (a.put (some d) (.pointer (some ⟨b, 0, none⟩))) w) :
    ∀ (f : Nat) (listed : Array Bool) (a : Act) (b : Nat) (w : World), (∃ w0, S w0 ∧ w0.heap.size = b) → S w → Box w b T cs → listed.getD t false = true → headR P md ops S (t + 1) L f listed a → wpAny P md ops Q' (f + g) listed (a.put (some d) (.pointer (some ⟨b, 0, none⟩))) w
  | 0, listed, a, b, w, h0, hw, hb, _, h => by rw [Nat.zero_add]; exact hL _ _ h b w h0 hw hb
  | f + 1, listed, a, b, w, hb0, hw, hb, ht, h => by
    rw [show f + 1 + g = (f + g) + 1 by omega]
    refine ⟨fun h0 => absurd h0 h.1, fun i hi => ?_⟩
    obtain ⟨hin, hq⟩ := h.2 i hi
    obtain ⟨hun, oi, hoi, hall⟩ := mem_ready.1 hi
    have hit : i ≠ t := by
      rintro rfl
      have hlt : i < listed.size := by
        rcases Nat.lt_or_ge i listed.size with h' | h'
        · exact h'
        · simp [Array.getElem?_eq_none h'] at ht
      simp [hlt] at hun ht
      rw [hun] at ht
      cases ht
    obtain ⟨h1, h2, h3⟩ := Oper.apart_spec (hap i oi hoi (by omega))
    rw [hod] at h1 h2
    have ht' : (listed.setIfInBounds i true).getD t false = true := getD_set_true ht
    unfold qR at hq
    unfold wpOp
    simp only [hoi] at hq ⊢
    rw [wanted_put oi a (some d) _ h1]
    split
    · rename_i hwd
      simp only [hwd, if_true] at hq
      obtain ⟨v, hv, hn⟩ := hq
      refine .inl (wp_of_quietR (S := S) (v := v) (fun w hw => ?_) hw fun w' hw' => ?_)
      · rw [execOp_put oi (fun cs b => hsel i oi cs b hoi) a (some d) _ h1]
        exact hv w hw
      · rw [Act.put_comm a _ v h2]
        exact any_made hSB hsel hot hod hap hL f _ _ b w' hb0 (hSB _ _ hw hw') (hb.below hw' hb.lt) ht' hn
    · rename_i hwd
      simp only [hwd] at hq
      rw [Act.put_comm a _ undef h2]
      exact any_made hSB hsel hot hod hap hL f _ _ b w hb0 hw hb ht' hq
/-- it is not made yet -/
theorem any_unmade (hSB : ∀ w w', S w → Below w.heap.size w w' → S w') (hsel : ∀ (j : Nat) (o : Oper) cs b, ops[j]? = some o → o.op ≠ .select cs b) (hot : ops[t]? = some ot) (hop : ot.op = .alloc T) (hog : ot.guard = none) (hod : ot.dst = some d) (hoa : ot.after = #[]) (hap : ∀ i oi, ops[i]? = some oi → i < t → ot.apart ops oi = true)
    (hz : ∀ w, (zeroValue T).run P w = .ok (.agg cs.toArray) w) (hs : Region.sinkB md ops (t + 1) = true) (hc : Region.chainB md ops (t + 1) = true) (hn : t + 1 < ops.size)
    (hL : ∀ listed a, L listed a → ∀ b w, (∃ w0, S w0 ∧ w0.heap.size = b) → S w → Box w b T cs → wpAny P md ops Q' g listed (a.put (some d) (.pointer (some ⟨b, 0, none⟩))) w) (hdone : ∀ listed a, L listed a → ∀ j ∈ Region.ready md ops listed, t + 1 ≤ j) :
    ∀ (f : Nat) (listed : Array Bool) (a : Act) (w : World), S w → HeadInv md ops (t + 1) listed → listed.getD t true = false → headR P md ops S (t + 1) L f (listed.setIfInBounds t true) a → wpAny P md ops Q' (f + 1 + g) listed a w := by
  intro f
  induction f with
  | zero =>
    intro listed a w hw inv hun h
    rw [show 0 + 1 + g = (0 + g) + 1 by omega]
    have htr : t ∈ Region.ready md ops listed := mem_ready.2 ⟨hun, ot, hot, by rw [hoa]; simp⟩
    refine ⟨fun h0 => (by rw [h0] at htr; cases htr), fun i hi => ?_⟩
    have hin : i < t + 1 := Nat.lt_of_not_le fun h => tail_waits hs hc hn inv _ t rfl (by omega) hun i h hi
    by_cases hit : i = t
    · subst hit
      unfold wpOp
      simp only [hot]
      rw [if_pos (by simp [Region.wanted, hog])]
      refine .inl ?_
      unfold Oper.wp execOp
      have e : (Instr.alloc T true (.tuple #[])).run P w = .ok (.pointer (some ⟨w.heap.size, 0, none⟩)) (w.alloc (.cells cs.toArray T)) := by
        simp [Instr.alloc, hz w, newVar, newRow, newObj, Value.cells]
        rfl
      simp only [hop, Sem.run_bind, e, Result.andThen_ok, Sem.run_pure, Oper.upon_value, hod]
      exact any_made hSB hsel hot hod hap hL 0 _ a _ _ ⟨w, hw, rfl⟩ (hSB _ _ hw ((Below.refl _ _).alloc (Nat.le_refl _) _)) (Box.new w T cs) (by simp; have := inv.size; omega) h
    · have := hdone _ _ h i (ready_mono hi hit)
      omega
  | succ f ih =>
    intro listed a w hw inv hun h
    rw [show f + 1 + 1 + g = (f + 1 + g) + 1 by omega]
    have htr : t ∈ Region.ready md ops listed := mem_ready.2 ⟨hun, ot, hot, by rw [hoa]; simp⟩
    refine ⟨fun h0 => (by rw [h0] at htr; cases htr), fun i hi => ?_⟩
    have hin : i < t + 1 := Nat.lt_of_not_le fun h => tail_waits hs hc hn inv _ t rfl (by omega) hun i h hi
    by_cases hit : i = t
    · subst hit
      unfold wpOp
      simp only [hot]
      rw [if_pos (by simp [Region.wanted, hog])]
      refine .inl ?_
      unfold Oper.wp execOp
      have e : (Instr.alloc T true (.tuple #[])).run P w = .ok (.pointer (some ⟨w.heap.size, 0, none⟩)) (w.alloc (.cells cs.toArray T)) := by
        simp [Instr.alloc, hz w, newVar, newRow, newObj, Value.cells]
        rfl
      simp only [hop, Sem.run_bind, e, Result.andThen_ok, Sem.run_pure, Oper.upon_value, hod]
      exact any_made hSB hsel hot hod hap hL (f + 1) _ a _ _ ⟨w, hw, rfl⟩ (hSB _ _ hw ((Below.refl _ _).alloc (Nat.le_refl _) _)) (Box.new w T cs) (by simp; have := inv.size; omega) h
    · have hq := (h.2 i (ready_mono hi hit)).2
      obtain ⟨_, oi, hoi, _⟩ := mem_ready.1 hi
      have hun' : (listed.setIfInBounds i true).getD t true = false := by rw [getD_set_ne true hit]; exact hun
      have next : ∀ a' w', S w' → headR P md ops S (t + 1) L f ((listed.setIfInBounds t true).setIfInBounds i true) a' → wpAny P md ops Q' (f + 1 + g) (listed.setIfInBounds i true) a' w' := fun a' w' hw' h' => by
        refine ih _ a' w' hw' (inv.set hi hin) hun' ?_
        rw [Array.setIfInBounds_comm _ _ hit]
        exact h'
      unfold qR at hq
      unfold wpOp
      simp only [hoi] at hq ⊢
      split
      · rename_i hwd
        simp only [hwd, if_true] at hq
        obtain ⟨v, hv, hn'⟩ := hq
        exact .inl (wp_of_quietR hv hw fun w' hw' => next _ _ (hSB _ _ hw hw') hn')
      · rename_i hwd
        simp only [hwd] at hq
        exact next _ _ hw hq
end

/-- THE REGION: operation t makes the variable -/
theorem wp_region_alloc {id : Nat} {Q : Exit → Act → World → Prop} {a : Act} {w : World} {l : List Oper} (S : World → Prop) (t : Nat) (T : TypeId) (cs : List Value) (d : Nat) (ot : Oper) (hot : l[t]? = some ot) (hop : ot.op = .alloc T) (hog : ot.guard = none) (hod : ot.dst = some d)
    (hz : ∀ w, (zeroValue T).run P w = .ok (.agg cs.toArray) w) (hm : P.follows .mixedOrders = true) (hB : allocB .any l.toArray t = true) (hSB : ∀ w w', S w → Below w.heap.size w w' → S w') (hS : S w.drew)
    (h : wpR P l.toArray S (fun a' => ∀ b w', (∃ w0, S w0 ∧ w0.heap.size = b) → S w' → Box w' b T cs → wpList P l.toArray Q (l.drop (t + 1)) (a'.put (some d) (.pointer (some ⟨b, 0, none⟩))) w') (l.take t) a) : (Code.region id l.toArray true).wp P Q a w := by
  have hot' : l.toArray[t]? = some ot := by simpa using hot
  simp only [allocB, hot', Bool.and_eq_true, decide_eq_true_eq, Array.isEmpty_iff, List.all_eq_true, List.mem_range] at hB
  obtain ⟨⟨⟨⟨⟨hsel, hn⟩, hs⟩, hc⟩, hoa, hap⟩, hlex⟩ := hB
  have hn' : t + 1 < l.length := by simpa using hn
  have htl : (l.take t).length = t := by simp; omega
  have hdl : (l.drop (t + 1)).length = l.toArray.size - (t + 1) := by simp
  have hap' : ∀ i oi, l.toArray[i]? = some oi → i < t → ot.apart l.toArray oi = true := fun i oi hi hit => by
    have := hap i hit
    rw [hi] at this
    exact this
  have inv0 : HeadInv .any l.toArray (t + 1) (Array.replicate l.toArray.size false) :=
    ⟨by simp, fun j oj _ hl => (by rw [getD_replicate_false] at hl; cases hl), fun s _ hs => getD_in (by simpa using hs) (getD_replicate_false _ _)⟩
  have htr : t ∈ Region.ready .any l.toArray (Array.replicate l.toArray.size false) := mem_ready.2 ⟨getD_in (by simp; omega) (getD_replicate_false _ _), ot, hot', by rw [hoa]; simp⟩
  have H := headR_lex (md := .any) (g := l.toArray.size - (t + 1)) hsel hs hc hn (l.take t) 0 _ a (fun j hj => by
    have hj' : j < t := by rw [htl] at hj; exact hj
    simp [hj']) (by simpa using htl) (inv0.set htr (by omega)) (by rw [htl]; exact hlex) h
  rw [htl] at H
  refine wp_region_any hm ?_
  have := any_unmade (Q' := Q) (g := l.toArray.size - (t + 1)) hSB (Region.noSelect_spec hsel) hot' hop hog hod hoa hap' hz hs hc hn (fun listed a' hL b w' hb0 hw' hb => by
    have := wpAny_of_seq (md := .any) (Q' := Q) (l.drop (t + 1)) (t + 1) listed (a'.put (some d) (.pointer (some ⟨b, 0, none⟩))) w' (fun j => by simp [List.getElem?_drop]) (by rw [hdl]; exact hL.1) (hL.2 b w' hb0 hw' hb)
    rwa [hdl] at this) (fun listed' a' hL => seqB_ready hL.1) t _ a _ hS inv0 (getD_in (by simp; omega) (getD_replicate_false _ _)) H
  rw [show t + 1 + (l.toArray.size - (t + 1)) = l.toArray.size by omega] at this
  exact this

/-- operations that call nothing, by the walk of a class -/
theorem wpR_plain {K : Act → Prop} : ∀ (l : List Oper) (l2 : List Oper) (a : Act), l.all plainOp = true → wpQuiet P ops S (fun a' => wpR P ops S K l2 a') l a → wpR P ops S K (l ++ l2) a
  | [], l2, a, _, h => h
  | o :: l, l2, a, hp, h => by
    simp only [List.all_cons, Bool.and_eq_true] at hp
    simp only [List.cons_append, wpR]
    unfold wpQuiet at h
    split
    · rename_i hw
      simp only [hw, if_true] at h
      obtain ⟨v, h1, h2⟩ := h
      refine ⟨v, fun w hS => ?_, wpR_plain l l2 _ hp.2 h2⟩
      have := h1 w hS
      unfold Oper.quietAt at this
      have hne := fun f args w' => no_enter (P := P) (ρ := a.eval) (w := w) (w' := w') (f := f) (args := args) hp.1
      generalize (execOp a.eval o).run P w = r at *
      cases r with
      | ok n w' => cases n <;> simp only [Oper.quietUpon] at this <;> simp only [upR] <;> first | exact this | exact absurd rfl (hne _ _ _)
      | halt x w' => simp only [Oper.quietUpon] at this
    · rename_i hw
      simp only [hw] at h
      exact wpR_plain l l2 _ hp.2 h
theorem wpR_class {K : Act → Prop} (l l2 : List Oper) (a : Act) (hp : l.all plainOp = true) (w0 : World) (hw0 : S w0) (h : ∀ (X : Type) (_ : Nonempty X) (f : X → World), (∀ x, S (f x)) → wpQuiet P ops (fun w' => ∃ x, w' = f x) (fun a' => wpR P ops S K l2 a') l a) : wpR P ops S K (l ++ l2) a := by
  refine wpR_plain l l2 a hp ?_
  have := h { w' : World // S w' } ⟨⟨w0, hw0⟩⟩ (fun x => x.val) (fun x => x.property)
  have e : (fun w' => ∃ x : { w' : World // S w' }, w' = x.val) = S := by
    funext w'
    exact propext ⟨fun ⟨x, hx⟩ => hx ▸ x.property, fun h => ⟨⟨w', h⟩, rfl⟩⟩
  rwa [e] at this
theorem wpR_take {K : Act → Prop} {l : List Oper} {a : Act} (k : Nat) (hp : (l.take k).all plainOp = true) (w0 : World) (hw0 : S w0)
    (h : ∀ (X : Type) (_ : Nonempty X) (f : X → World), (∀ x, S (f x)) → wpQuiet P ops (fun w' => ∃ x, w' = f x) (fun a' => wpR P ops S K (l.drop k) a') (l.take k) a) : wpR P ops S K l a := by
  have := wpR_class (P := P) (ops := ops) (S := S) (K := K) (l.take k) (l.drop k) a hp w0 hw0 h
  rwa [List.take_append_drop] at this
theorem enters_in {f : FuncId} {fn : Func} {c : Code} (hf : P.funcs[f]? = some fn) (hname : (fn.name == "runtime.NumGoroutine") = false) (hb : fn.body = some c) (args : Array Value) (w : World) : (callFunc f args).run P w = .ok (.enter f args) w := by
  have h1 : fn.name ≠ "runtime.NumGoroutine" := by simpa using hname
  simp [callFunc, hf, h1, hb, mark]
/-- an operation whose value is known -/
theorem wpR_val {K : Act → Prop} {o : Oper} {l : List Oper} {a : Act} (hgd : o.guard = none) (v : Value) (he : ∀ w, (execOp a.eval o).run P w = .ok (.value v) w) (h : wpR P ops S K l (a.put o.dst v)) : wpR P ops S K (o :: l) a := by
  unfold wpR
  rw [if_pos (by simp [Region.wanted, hgd])]
  refine ⟨v, fun w hw => ?_, h⟩
  rw [he w]
  exact ⟨rfl, rfl⟩
/-- a call -/
theorem wpR_call {K : Act → Prop} {o : Oper} {l : List Oper} {a : Act} (hgd : o.guard = none) (F : FuncId) (xs : Array Operand) (ts : Array TypeId) (ho : o.op = .call { callee := .value (.func F), args := xs, argTypes := ts }) (vs : Array Value) (hx : xs.map a.eval = vs) (hE : ∀ w, (callFunc F vs).run P w = .ok (.enter F vs) w) (v : Value)
    (hc : ∀ w, S w → Calls P F vs w fun e w' => e = .returned v ∧ Below w.heap.size w w') (h : wpR P ops S K l (a.put o.dst v)) : wpR P ops S K (o :: l) a := by
  unfold wpR
  rw [if_pos (by simp [Region.wanted, hgd])]
  refine ⟨v, fun w hw => ?_, h⟩
  have e : (execOp a.eval o).run P w = .ok (.enter F vs) w := by
    have e1 : a.eval (.func F) = .func (.func F) #[] #[] := rfl
    unfold execOp
    simp only [ho, resolve, hx, e1, Deferred.ofValue, invoke, Sem.run_bind, Sem.run_pure, Result.andThen_ok]
    simpa using hE w
  rw [e]
  exact ⟨rfl, hc w hw⟩
end
end Go.Proofs.Ytjjomfpkdbfhdaa

/-
  The walk of the law PageLays.
-/
import Derived.Test.YtlpkmggboihdjaaLfN
namespace Go.Proofs.Ytlpkmggboihdjaa
open Go.RowKit Word Crc Leaf
set_option linter.unusedVariables false

/-- a leaf in a variable of its own -/
def LcSt (w W : World) (r : Lf) : Prop := Box W w.heap.size 24 (lcs r) ∧ Below w.heap.size w W
theorem LcSt.on {w W W' : World} {r : Lf} (h : LcSt w W r) (hb : Below W.heap.size W W') : LcSt w W' r := ⟨h.1.on hb, bthen h.2 hb⟩
theorem LcSt.drew {w W : World} {r : Lf} (h : LcSt w W r) : LcSt w W.drew r := ⟨h.1, h.2.drew⟩

set_option maxRecDepth 100000 in
set_option maxHeartbeats 4000000 in
theorem lflaw_lays (r : Lf) (w : World) (hi : In r) :
    Calls Try.prog 3 #[.agg (lcs r).toArray] w fun e w' => e = .returned (.bool true) ∧ Below w.heap.size w w' := by
  obtain ⟨mr, hmr, hszr⟩ := big_size (P := Try.prog) (t := 24) (s := 12) (by kernel_rfl)
  have hmr0 : ¬ mr = 0 := by omega
  have HI := Lib.hid hi
  have HM := Lib.hid hmr
  have QA := Lib.hid fun w' => lfright_any r w' hi
  have QB := Lib.hid fun w' => rright7_any r w' hi
  have QW := Lib.hid fun w' => awake7_any w'
  have LA := Lib.hid fun (W : World) (L : LcSt w W r) => big_load0 Try.prog w.heap.size 0 (lcs r) mr (by rw [lcs_length HI.out, HM.out]) W L.1.range0
  clear hi hmr
  go_enter Try.func3, Try.ntmps3
  go_wp2_with (first
    | ((with_reducible refine wpList_lf_box (o := ⟨some 1, .box _ _, _, _, _, _⟩) rfl _ rfl r rfl ?_); intro w1 x0 hB1 hs1)
    | fail)
  have L : LcSt w w1 r := ⟨x0, hB1⟩
  clear x0 hB1 hs1
  refine wp_region_class (fun w' => LcSt w w' r) (by kernel_rfl) (by kernel_rfl) L.drew ?_
  intro X hX f hf hg
  have ca := fun x => LA.out _ (hf x)
  have Hf := Lib.hid hf
  have Hg := Lib.hid hg
  clear hf hg L
  try simp only [Act.put, List.setIfInBounds_toArray, List.set_cons_succ, List.set_cons_zero]
  generalize hok : okB r = ok at QA QB
  have HOK := Lib.hid hok
  clear hok
  have hne : (ok != ok) = false := by cases ok <;> rfl
  repeat (go_big_quiet_step (first
    | (go_at_call 8; with_reducible exact calls_class (QW.out _) (fun _ hb => Hg.out _ ((Hf.out _).on hb)))
    | (go_at_call 9; with_reducible exact calls_class (QA.out _) (fun _ hb => Hg.out _ ((Hf.out _).on hb)))
    | (go_at_call 10; with_reducible exact calls_class (QB.out _) (fun _ hb => Hg.out _ ((Hf.out _).on hb)))))
  refine wpQuiet_nil ?_
  rintro _ ⟨x, rfl⟩
  have L := Hf.out x
  clear ca Hf Hg QW hX
  generalize f x = W2 at L ⊢
  go_wp2_with fail
  cases ok with
  | false =>
    refine wp_region_class (fun w' => LcSt w w' r) (by kernel_rfl) (by kernel_rfl) L.drew ?_
    intro X hX f hf hg
    have ca := fun x => LA.out _ (hf x)
    have Hf := Lib.hid hf
    have Hg := Lib.hid hg
    clear hf hg L
    try simp only [Act.put, List.setIfInBounds_toArray, List.set_cons_succ, List.set_cons_zero]
    repeat (go_big_quiet_step ((go_at_call 10; with_reducible exact calls_class (QB.out _) (fun _ hb => Hg.out _ ((Hf.out _).on hb)))))
    refine wpQuiet_nil ?_
    rintro _ ⟨x, rfl⟩
    have HL := Lib.hid (Hf.out x).2
    clear ca Hf Hg hX
    generalize f x = W3 at HL ⊢
    go_wp2
    go_ret
    exact ⟨rfl, HL.out⟩
  | true =>
    have hk : Ok r := of_decide_eq_true HOK.out
    have YA := Lib.hid fun w' => lflay_any r w' hk HI.out
    have YB := Lib.hid fun w' => rlay7_any r w' hk HI.out
    have hq := fun w' => pg_equal w' (layL r) (layL r) (layL_length r HI.out) (layL_length r HI.out)
    rw [beq_self_eq_true] at hq
    have hgd := pg_guard
    clear hk
    refine wp_region_class (fun w' => LcSt w w' r) (by kernel_rfl) (by kernel_rfl) L.drew ?_
    intro X hX f hf hg
    have ca := fun x => LA.out _ (hf x)
    have Hf := Lib.hid hf
    have Hg := Lib.hid hg
    clear hf hg L
    try simp only [Act.put, List.setIfInBounds_toArray, List.set_cons_succ, List.set_cons_zero]
    generalize bs (layL r) = Y at *
    generalize lcs r = R at *
    repeat (go_big_quiet_step (first
      | (go_at_call 10; with_reducible exact calls_class (QB.out _) (fun _ hb => Hg.out _ ((Hf.out _).on hb)))
      | (go_at_call 11; with_reducible exact calls_class (YA.out _) (fun _ hb => Hg.out _ ((Hf.out _).on hb)))
      | (go_at_call 12; with_reducible exact calls_class (YB.out _) (fun _ hb => Hg.out _ ((Hf.out _).on hb)))))
    refine wpQuiet_nil ?_
    rintro _ ⟨x, rfl⟩
    have HL := Lib.hid (Hf.out x).2
    clear ca Hf Hg hX hq
    generalize f x = W3 at HL ⊢
    go_wp2
    go_ret
    exact ⟨rfl, HL.out⟩
end Go.Proofs.Ytlpkmggboihdjaa

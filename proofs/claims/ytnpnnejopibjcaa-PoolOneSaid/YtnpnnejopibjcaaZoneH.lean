/-
  The zones of a device to which nothing was done: New, by the program and by the document.
-/
import Derived.Test.YtnpnnejopibjcaaZoneG
import Derived.Test.YtnpnnejopibjcaaGeomO
namespace Go.Proofs.Ytnpnnejopibjcaa
open Go.RowKit Geom Zone
set_option linter.unusedVariables false

set_option maxRecDepth 100000 in
/-- make of n zones -/
theorem wpList_make_zones {P : Program} (w : World) {ops : Array Oper} {rest : List Oper} {o : Oper} {a : Act} {Q : Exit → Act → World → Prop} (hgd : o.guard = none) (l c : Operand) (t : TypeId) (ho : o.op = .makeSlice t l c)
    (e : TypeId) (bytes : Nat) (he : Elem P t e (.agg #[.int .i64 0, .int .i64 0]) 2 bytes) (kl kc : IntKind) (n : Nat) (N : Int) (hl : a.eval l = .int kl N) (hc : a.eval c = .int kc N) (hN : N = (n : Int))
    (h63 : n ≤ maxLen) (hbytes : bytes * n ≤ 281474976710656)
    (h : ∀ w', w'.ownsRow w.heap.size e 2 (.slice (some ⟨w.heap.size, 0, none⟩) n n) n (zc (List.replicate n (0, 0))) → Below w.heap.size w w' → wpList P ops Q rest (a.put o.dst (.slice (some ⟨w.heap.size, 0, none⟩) n n)) w') : wpList P ops Q (o :: rest) a w := by
  obtain ⟨ht, i, hi, hz1, hsize, hby, hzs, hsz⟩ := he
  refine wpList_make_full w hgd l c t ho w.heap.size e i _ 2 ht hi hz1 hsize kl kc N N n hl hc hN hN (by rw [hby]; exact hbytes) h63 (Nat.le_refl _) ?_
  intro w' hown hg
  have e2 : (Value.agg #[.int .i64 0, .int .i64 0]).cells = #[.int .i64 0, .int .i64 0] := rfl
  rw [e2, made_zone] at hown
  exact h w' hown ((Below.refl _ _).grown hg (Nat.le_refl _) (fun k hk => by cases hk))

set_option maxRecDepth 100000 in
theorem rnew_any (conv soft seq size opn : Int) (n : Nat) (w : World) (H : Some conv seq size) (hn : (n : Int) = conv + seq) :
    Calls Try.prog 26 #[.agg #[.int .i64 conv, .int .i64 soft, .int .i64 seq, .int .i64 size, .int .i64 opn]] w fun e w' =>
      ∃ g c, e = .returned (.slice (some ⟨g, 0, none⟩) n c) ∧ w'.ownsRow w.heap.size 56 2 (.slice (some ⟨g, 0, none⟩) n c) n (zc (newK n conv.toNat)) ∧ Below w.heap.size w w' := by
  obtain ⟨q1, q2, q3, q4, q5⟩ := H
  have hck : conv.toNat ≤ n := by omega
  have hq0 := IntWalk.i64_in (conv + seq) (by omega)
  have hb0 : Below (w.heap.size + 1) (w.alloc (.cells #[.int .i64 conv, .int .i64 soft, .int .i64 seq, .int .i64 size, .int .i64 opn] 23)) (w.alloc (.cells #[.int .i64 conv, .int .i64 soft, .int .i64 seq, .int .i64 size, .int .i64 opn] 23)) := Below.refl _ _
  have H0 := Lib.hid (One.new w conv soft seq size opn 23)
  go_enter Try.func26, Try.ntmps26
  go_wp2_with fail
  generalize World.alloc _ _ = w0 at H0 ⊢
  go_loopw [3, 4] (fun v i wr => ∃ k : Nat, k ≤ n ∧ i = .int .i64 k ∧ wr.ownsRow w0.heap.size 56 2 v k (zc ((newK n conv.toNat).take k)) ∧ Below w0.heap.size w0 wr) (fun _ i _ => n - (intOf i).toNat)
  case atStart => exact ⟨0, by omega, rfl, World.ownsRow_nil _ _ _ _, Below.refl _ _⟩
  case round =>
    obtain ⟨k, hk, rfl, hown, hbl⟩ := hrel
    have hx := Lib.hid (One.below H0.out hbl)
    obtain ⟨c0, c1, c2, c3, c4, hlt⟩ := id hx.out.1
    by_cases h1 : k < n
    · by_cases h2 : (k : Int) < conv
      · have HK := Lib.hid (show zc ((newK n conv.toNat).take (k + 1)) = zc ((newK n conv.toNat).take k) ++ [.int .i64 4, .int .i64 0] by rw [newK_take_lo hck (by omega), zc_append]; rfl)
        go_wp2_with (at_builtin; refine wpList_append_new _ rfl _ _ _ rfl w0.heap.size 56 _ 2 16 elemZ u3 k _ rfl [.int .i64 4, .int .i64 0] rfl hown rfl (fun u hu => zc_one (L := [(4, 0)]) hu) (by simp only [maxLen]; omega) (by omega) hbl.size ?_; intro v1 w1 hown1 hg1)
        go_roundw
        case rel => exact ⟨k + 1, by omega, by go_num, by rw [HK.out]; exact hown1, hbl.grown hg1 hbl.size fun g hg => (hown.lt g hg).1⟩
        case measure => simp [intOf]; omega
      · have HK := Lib.hid (show zc ((newK n conv.toNat).take (k + 1)) = zc ((newK n conv.toNat).take k) ++ [.int .i64 0, .int .i64 0] by rw [newK_take_hi hck h1 (by omega), zc_append]; rfl)
        go_wp2_with (at_builtin; refine wpList_append_new _ rfl _ _ _ rfl w0.heap.size 56 _ 2 16 elemZ u3 k _ rfl [.int .i64 0, .int .i64 0] rfl hown rfl (fun u hu => zc_one (L := [(0, 0)]) hu) (by simp only [maxLen]; omega) (by omega) hbl.size ?_; intro v1 w1 hown1 hg1)
        go_roundw
        case rel => exact ⟨k + 1, by omega, by go_num, by rw [HK.out]; exact hown1, hbl.grown hg1 hbl.size fun g hg => (hown.lt g hg).1⟩
        case measure => simp [intOf]; omega
    · obtain rfl : n = k := by omega
      rw [List.take_of_length_le (by rw [newK_length hck]; exact Nat.le_refl _)] at hown
      obtain ⟨A', c', hv⟩ := own_slice hown
      subst hv
      obtain ⟨g, rfl, hg1, hg2⟩ := own_at hown (by omega)
      have Hown := Lib.hid hown
      clear hown
      go_wp2
      go_ret
      exact ⟨g, c', rfl, own_base Hown.out H0.out.2.size, hx.out.2⟩
end Go.Proofs.Ytnpnnejopibjcaa

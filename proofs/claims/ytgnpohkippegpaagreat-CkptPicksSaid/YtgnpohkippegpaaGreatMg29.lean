/-
  MsD
-/
import Derived.Test.YtgnpohkippegpaaGreatMg27
import Derived.Test.YtgnpohkippegpaaGreatMg28
/-
  Package mast: Lay, LayGeom.
-/
namespace Go.Proofs.YtgnpohkippegpaaGreat
open Go.RowKit Word Crc Mast
set_option linter.unusedVariables false

/-- what stands in memory while a sector is laid -/
def MlSt (w W : World) (T : TypeId) (cs : List Value) (b : Nat) (p : List Int) : Prop :=
  TwoBx w W T cs 43 (bs pg0) ∧ Box W b 43 (bs p) ∧ w.heap.size + 2 ≤ b ∧ p.length = 64
section
variable {w W W' : World} {T : TypeId} {cs : List Value} {b : Nat} {p p' : List Int}
theorem MlSt.begin (h : TwoBx w W T cs 43 (bs pg0)) (x : Box W' W.heap.size 43 (bs pg0)) (hB : Below W.heap.size W W') : MlSt w W' T cs W.heap.size pg0 := ⟨h.on hB, x, h.2.2.2, rfl⟩
theorem MlSt.setc (h : MlSt w W T cs b p) (n : Nat) (v : Int) : MlSt w (W.setCell ⟨b, n, none⟩ (.int .u8 v)) T cs b (p.set n v) := by
  have e : ∀ x, x ≠ b → (W.setCell ⟨b, n, none⟩ (.int .u8 v)).heap[x]? = W.heap[x]? := fun x hx => heap_setCell_other _ _ _ _ hx
  obtain ⟨h1, h2, h3, h4⟩ := h
  refine ⟨⟨h1.1.same (e _ (by omega)), h1.2.1.same (e _ (by omega)), h1.2.2.1.setCell (by show w.heap.size ≤ b; omega) _, by have := h1.2.2.2; simpa [World.setCell] using this⟩, ?_, h3, by simp [h4]⟩
  have := h2.set n (.int .u8 v)
  rwa [← bs_set] at this
theorem MlSt.put (h : MlSt w W T cs b p) (hb : Box W' b 43 (bs p')) (hg : W.grownBy W' (some b)) (hl : p'.length = 64) : MlSt w W' T cs b p' :=
  ⟨⟨h.1.1.grown hg (by have := h.2.2.1; omega), h.1.2.1.grown hg (by have := h.2.2.1; omega), below_stored h.1.2.2.1 hg h.1.2.2.1.size (by have := h.2.2.1; omega), Nat.le_trans h.1.2.2.2 hg.size⟩, hb, h.2.2.1, hl⟩
theorem MlSt.on (h : MlSt w W T cs b p) (hb : Below W.heap.size W W') : MlSt w W' T cs b p := ⟨h.1.on hb, h.2.1.on hb, h.2.2⟩
end
/-- what Lay answers: the sector; noughts, if there is none -/
def layS (m : Mst) : List Int := if okB m = true then layL m else pg0
def glayS (g : Ge) : List Int := if gokB g = true then glayL g else pg0
theorem layS_length (m : Mst) : (layS m).length = 64 := by unfold layS; split; exact layL_length m; rfl
theorem glayS_length (g : Ge) : (glayS g).length = 64 := by unfold glayS; split; exact glayL_length g; rfl
theorem pg0_wrong : rightB pg0 = false := by decide +kernel
theorem fault_lay {p : List Int} : (faultS p (layS (taken p)) = 0 → readS p = (taken p, 0)) ∧ (faultS p (layS (taken p)) ≠ 0 → readS p = (m0, faultS p (layS (taken p)))) := by
  unfold faultS readS layS
  by_cases hr : rightB p = false
  · rw [if_pos hr, if_pos hr]; exact ⟨fun h => by omega, fun _ => rfl⟩
  · rw [if_neg hr, if_neg hr]
    by_cases hk : okB (taken p) = true
    · rw [if_pos hk]
      by_cases he : layL (taken p) = p
      · rw [if_pos he, if_pos ⟨hk, he⟩]; exact ⟨fun _ => rfl, fun h => absurd rfl h⟩
      · rw [if_neg he, if_neg (fun h => he h.2)]; exact ⟨fun h => by omega, fun _ => rfl⟩
    · rw [if_neg hk, if_neg (show ¬ pg0 = p by intro h; rw [← h] at hr; exact hr pg0_wrong), if_neg (fun h => hk h.1)]
      exact ⟨fun h => by omega, fun _ => rfl⟩
theorem gfault_lay {p : List Int} : (faultS p (glayS (gtaken p)) = 0 → readGS p = (gtaken p, 0)) ∧ (faultS p (glayS (gtaken p)) ≠ 0 → readGS p = (g0, faultS p (glayS (gtaken p)))) := by
  unfold faultS readGS glayS
  by_cases hr : rightB p = false
  · rw [if_pos hr, if_pos hr]; exact ⟨fun h => by omega, fun _ => rfl⟩
  · rw [if_neg hr, if_neg hr]
    by_cases hk : gokB (gtaken p) = true
    · rw [if_pos hk]
      by_cases he : glayL (gtaken p) = p
      · rw [if_pos he, if_pos ⟨hk, he⟩]; exact ⟨fun _ => rfl, fun h => absurd rfl h⟩
      · rw [if_neg he, if_neg (fun h => he h.2)]; exact ⟨fun h => by omega, fun _ => rfl⟩
    · rw [if_neg hk, if_neg (show ¬ pg0 = p by intro h; rw [← h] at hr; exact hr pg0_wrong), if_neg (fun h => hk h.1)]
      exact ⟨fun h => by omega, fun _ => rfl⟩

set_option maxRecDepth 100000 in
set_option maxHeartbeats 4000000 in
theorem mslay_any (m : Mst) (w : World) (hi : In m) :
    Calls Tryz.prog 51 #[.agg (mcs m).toArray] w fun e w' => e = .returned (.agg (bs (layS m)).toArray) ∧ Below w.heap.size w w' := by
  obtain ⟨m6, hm, hsz⟩ := big_size (P := Tryz.prog) (t := 43) (s := 64) (by kernel_rfl)
  obtain ⟨mr, hmr, hszr⟩ := big_size (P := Tryz.prog) (t := 34) (s := 6) (by kernel_rfl)
  have hm0 : ¬ m6 = 0 := by omega
  have hmr0 : ¬ mr = 0 := by omega
  have HM := Lib.hid (And.intro hm hmr)
  have HI := Lib.hid hi
  have HR := Lib.hid fun w' => msright_any m w'
  clear hm hmr
  go_enter Tryz.func51, Tryz.ntmps51
  go_wp2_with (first
    | ((with_reducible refine wpList_ms_box (o := ⟨some 1, .box _ _, _, _, _, _⟩) rfl _ rfl m rfl ?_); intro w1 x0 hB1 hs1)
    | ((with_reducible refine wpList_pg_alloc (o := ⟨some 2, .alloc _, _, _, _, _⟩) rfl rfl ?_); intro w2 x1 hB2 hs2; have L := TwoBx.start x0 hB1 hs1 x1 hB2 hs2; rw [hs1]; clear hs1 hs2 x0 x1 hB1 hB2; have hld := big_load0 Tryz.prog w.heap.size 0 (mcs m) mr (by rw [mcs_length, HM.out.2]) _ L.1.range0)
    | fail)
  refine (HR.out _).mono ?_
  rintro e w3 ⟨rfl, hb3⟩
  replace L := L.on hb3
  clear hb3 hld HR
  cases hk : okB m with
  | false =>
    have HS := Lib.hid (show layS m = pg0 by unfold layS; rw [if_neg (by rw [hk]; simp)])
    have HX := Lib.hid L.2.1
    have HB := Lib.hid L.2.2
    clear hk L
    go_wp2_with (first
      | (with_reducible refine wpList_build_zero _ (o := ⟨some 7, .build _ _, _, _, _, _⟩) rfl _ rfl (bs pg0) pg_build ?_)
      | ((with_reducible refine wpList_pg_store (o := ⟨none, .store _ _ _, _, _, _, _⟩) rfl _ _ rfl (w.heap.size + 1) pg0 pg0 rfl rfl rfl rfl HX.out ?_); intro w9 hb9 hg9 _)
      | fail)
    have hldF := big_load0 Tryz.prog (w.heap.size + 1) 0 (bs pg0) m6 (by rw [bs_length, HM.out.1]; rfl) _ hb9.range0
    generalize hR : bs pg0 = R at hldF ⊢
    exact bodyPost_ret (v := .agg R.toArray) (by simp [results, Tryz.results51, go_sem, hsz, hldF]) rfl ⟨by rw [HS.out, hR], below_stored HB.out.1 hg9 HB.out.1.size (by omega)⟩
  | true =>
    have HS := Lib.hid (show layS m = layL m by unfold layS; rw [if_pos hk])
    have HK := Lib.hid (of_decide_eq_true hk : Ok m)
    clear hk
    cases hf : m.foot with
    | true =>
      have HMK := Lib.hid (show Mast.mark m = 130 by unfold Mast.mark; rw [if_pos hf])
      go_wp2_with (first
        | ((with_reducible refine wpList_pg_alloc (o := ⟨some 3, .alloc _, _, _, _, _⟩) rfl rfl ?_); intro w4 x4 hB4 _; have L4 := MlSt.begin L x4 hB4; clear x4 hB4 L; have p0 : w4.cell? ⟨w3.heap.size, 0, none⟩ = some (.int .u8 0) := (L4.2.1.cell 0).trans rfl; have f0 := L4.2.1.frozen 0; have L5 : MlSt w (w4.setCell ⟨w3.heap.size, 0, none⟩ (.int .u8 129)) 34 (mcs m) w3.heap.size (stage 129 []) := L4.setc 0 129; have cf := L5.1.1.ms.1; rw [hf] at cf; have L6 : MlSt w ((w4.setCell ⟨w3.heap.size, 0, none⟩ (.int .u8 129)).setCell ⟨w3.heap.size, 0, none⟩ (.int .u8 130)) 34 (mcs m) w3.heap.size (stage 130 []) := L5.setc 0 130; have cg := L6.1.1.ms.2.1)
        | fail)
      generalize World.setCell _ _ _ = W at L6 ⊢
      rename MlSt _ _ _ _ _ (stage 130 []) => L
      clear L5 p0 f0 cf cg hf L4
      generalize w3.heap.size = b3 at *
      -- gen
      have hx := (show 0 ≤ m.gen ∧ m.gen < 9223372036854775808 by have := HK.out.1; omega)
      refine (mput_any b3 1 8 m.gen (stage 130 []) W (by omega) (by omega) (by omega) L.2.2.2 hx L.2.1).mono ?_
      rintro e w5 ⟨rfl, hb, hg⟩
      rw [show put (stage 130 []) 1 8 m.gen = stage 130 [(8, m.gen)] from stage_put 130 [] 8 m.gen (by show (0) + 8 ≤ 63; decide)] at hb
      replace L := L.put hb hg (stage_length _ _ (by show (0+8) ≤ 63; decide))
      clear hb hg hx
      generalize w5 = W at L ⊢
      have cc := L.1.1.ms.2.2.1
      go_wp2_with fail
      clear cc
      -- epoch
      have hx := (show 0 ≤ m.epoch ∧ m.epoch < 9223372036854775808 by have := HK.out.2.1; omega)
      refine (mput_any b3 9 8 m.epoch (stage 130 [(8, m.gen)]) W (by omega) (by omega) (by omega) L.2.2.2 hx L.2.1).mono ?_
      rintro e w5 ⟨rfl, hb, hg⟩
      rw [show put (stage 130 [(8, m.gen)]) 9 8 m.epoch = stage 130 [(8, m.gen), (8, m.epoch)] from stage_put 130 [(8, m.gen)] 8 m.epoch (by show (8) + 8 ≤ 63; decide)] at hb
      replace L := L.put hb hg (stage_length _ _ (by show (8+8) ≤ 63; decide))
      clear hb hg hx
      generalize w5 = W at L ⊢
      have cc := L.1.1.ms.2.2.2.1
      go_wp2_with fail
      clear cc
      -- seq
      have hx := (show 0 ≤ m.seq ∧ m.seq < 9223372036854775808 by have := HK.out.2.2.1; omega)
      refine (mput_any b3 17 8 m.seq (stage 130 [(8, m.gen), (8, m.epoch)]) W (by omega) (by omega) (by omega) L.2.2.2 hx L.2.1).mono ?_
      rintro e w5 ⟨rfl, hb, hg⟩
      rw [show put (stage 130 [(8, m.gen), (8, m.epoch)]) 17 8 m.seq = stage 130 [(8, m.gen), (8, m.epoch), (8, m.seq)] from stage_put 130 [(8, m.gen), (8, m.epoch)] 8 m.seq (by show (8+8) + 8 ≤ 63; decide)] at hb
      replace L := L.put hb hg (stage_length _ _ (by show (8+8+8) ≤ 63; decide))
      clear hb hg hx
      generalize w5 = W at L ⊢
      have cc := L.1.1.ms.2.2.2.2.1
      go_wp2_with fail
      clear cc
      -- pages
      have hx := (show 0 ≤ m.pages ∧ m.pages < 9223372036854775808 by have := HK.out.2.2.2.1; omega)
      refine (mput_any b3 25 4 m.pages (stage 130 [(8, m.gen), (8, m.epoch), (8, m.seq)]) W (by omega) (by omega) (by omega) L.2.2.2 hx L.2.1).mono ?_
      rintro e w5 ⟨rfl, hb, hg⟩
      rw [show put (stage 130 [(8, m.gen), (8, m.epoch), (8, m.seq)]) 25 4 m.pages = stage 130 [(8, m.gen), (8, m.epoch), (8, m.seq), (4, m.pages)] from stage_put 130 [(8, m.gen), (8, m.epoch), (8, m.seq)] 4 m.pages (by show (8+8+8) + 4 ≤ 63; decide)] at hb
      replace L := L.put hb hg (stage_length _ _ (by show (8+8+8+4) ≤ 63; decide))
      clear hb hg hx
      generalize w5 = W at L ⊢
      have hs0 : 0 ≤ m.sum := HI.out.1
      have hs1 : m.sum < 4294967296 := HI.out.2
      have cc := L.1.1.ms.2.2.2.2.2
      go_wp2_with fail
      clear cc
      -- sum
      have hx := (show 0 ≤ m.sum ∧ m.sum < 9223372036854775808 by have := HI.out; unfold In at this; omega)
      refine (mput_any b3 29 4 m.sum (stage 130 [(8, m.gen), (8, m.epoch), (8, m.seq), (4, m.pages)]) W (by omega) (by omega) (by omega) L.2.2.2 hx L.2.1).mono ?_
      rintro e w5 ⟨rfl, hb, hg⟩
      rw [show put (stage 130 [(8, m.gen), (8, m.epoch), (8, m.seq), (4, m.pages)]) 29 4 m.sum = stage 130 [(8, m.gen), (8, m.epoch), (8, m.seq), (4, m.pages), (4, m.sum)] from stage_put 130 [(8, m.gen), (8, m.epoch), (8, m.seq), (4, m.pages)] 4 m.sum (by show (8+8+8+4) + 4 ≤ 63; decide)] at hb
      replace L := L.put hb hg (stage_length _ _ (by show (8+8+8+4+4) ≤ 63; decide))
      clear hb hg hx
      generalize w5 = W at L ⊢
      -- the sum
      have hfin := L
      have HSL := Lib.hid (stage_length 130 ([(8, m.gen), (8, m.epoch), (8, m.seq), (4, m.pages), (4, m.sum)]) (by show (8+8+8+4+4) ≤ 63; decide))
      have HSO := Lib.hid (stage_octets (b := 130) (by omega) ([(8, m.gen), (8, m.epoch), (8, m.seq), (4, m.pages), (4, m.sum)]))
      have hld := big_load0 Tryz.prog b3 0 (bs (stage 130 ([(8, m.gen), (8, m.epoch), (8, m.seq), (4, m.pages), (4, m.sum)]))) m6 (by rw [bs_length, HSL.out, HM.out.1]) _ L.2.1.range0
      have HL := Lib.hid L
      have HSe := Lib.hid fun w' => msealed_any (stage 130 ([(8, m.gen), (8, m.epoch), (8, m.seq), (4, m.pages), (4, m.sum)])) w' HSL.out HSO.out
      rw [stage_end 130 ([(8, m.gen), (8, m.epoch), (8, m.seq), (4, m.pages), (4, m.sum)]) (by show (8+8+8+4+4) ≤ 59; decide)] at HSe
      have HE := Lib.hid (show sealed (front 130 ([(8, m.gen), (8, m.epoch), (8, m.seq), (4, m.pages), (4, m.sum)])) = layL m from (by unfold layL secL fs; rw [HMK.out]))
      have HLL := Lib.hid (layL_length m)
      generalize sealed (front 130 ([(8, m.gen), (8, m.epoch), (8, m.seq), (4, m.pages), (4, m.sum)])) = Y at *
      generalize stage 130 ([(8, m.gen), (8, m.epoch), (8, m.seq), (4, m.pages), (4, m.sum)]) = Z at *
      clear L hfin
      go_wp2_with fail
      refine (HSe.out _).mono ?_
      rintro e w6 ⟨rfl, hb6⟩
      have L := HL.out.1.on hb6
      have HYL := Lib.hid (show Y.length = 64 by rw [HE.out]; exact HLL.out)
      have HX := Lib.hid L.2.1
      have HB := Lib.hid L.2.2
      clear HL HSe hb6 hld L
      go_wp2_with (first
        | ((with_reducible refine wpList_pg_store (o := ⟨none, .store _ _ _, _, _, _, _⟩) rfl _ _ rfl (w.heap.size + 1) Y pg0 HYL.out rfl rfl rfl HX.out ?_); intro w9 hb9 hg9 _)
        | fail)
      have hldF := big_load0 Tryz.prog (w.heap.size + 1) 0 (bs Y) m6 (by rw [bs_length, HYL.out, HM.out.1]) _ hb9.range0
      generalize hR : bs Y = R at hldF ⊢
      exact bodyPost_ret (v := .agg R.toArray) (by simp [results, Tryz.results51, go_sem, hsz, hldF]) rfl ⟨by rw [HS.out, ← HE.out, hR], below_stored HB.out.1 hg9 HB.out.1.size (by omega)⟩
    | false =>
      have HMK := Lib.hid (show Mast.mark m = 129 by unfold Mast.mark; rw [if_neg (by rw [hf]; simp)])
      go_wp2_with (first
        | ((with_reducible refine wpList_pg_alloc (o := ⟨some 3, .alloc _, _, _, _, _⟩) rfl rfl ?_); intro w4 x4 hB4 _; have L4 := MlSt.begin L x4 hB4; clear x4 hB4 L; have p0 : w4.cell? ⟨w3.heap.size, 0, none⟩ = some (.int .u8 0) := (L4.2.1.cell 0).trans rfl; have f0 := L4.2.1.frozen 0; have L5 : MlSt w (w4.setCell ⟨w3.heap.size, 0, none⟩ (.int .u8 129)) 34 (mcs m) w3.heap.size (stage 129 []) := L4.setc 0 129; have cf := L5.1.1.ms.1; rw [hf] at cf; have cg := L5.1.1.ms.2.1)
        | fail)
      generalize World.setCell _ _ _ = W at L5 ⊢
      rename MlSt _ _ _ _ _ (stage 129 []) => L
      clear p0 f0 cf cg hf L4
      generalize w3.heap.size = b3 at *
      -- gen
      have hx := (show 0 ≤ m.gen ∧ m.gen < 9223372036854775808 by have := HK.out.1; omega)
      refine (mput_any b3 1 8 m.gen (stage 129 []) W (by omega) (by omega) (by omega) L.2.2.2 hx L.2.1).mono ?_
      rintro e w5 ⟨rfl, hb, hg⟩
      rw [show put (stage 129 []) 1 8 m.gen = stage 129 [(8, m.gen)] from stage_put 129 [] 8 m.gen (by show (0) + 8 ≤ 63; decide)] at hb
      replace L := L.put hb hg (stage_length _ _ (by show (0+8) ≤ 63; decide))
      clear hb hg hx
      generalize w5 = W at L ⊢
      have cc := L.1.1.ms.2.2.1
      go_wp2_with fail
      clear cc
      -- epoch
      have hx := (show 0 ≤ m.epoch ∧ m.epoch < 9223372036854775808 by have := HK.out.2.1; omega)
      refine (mput_any b3 9 8 m.epoch (stage 129 [(8, m.gen)]) W (by omega) (by omega) (by omega) L.2.2.2 hx L.2.1).mono ?_
      rintro e w5 ⟨rfl, hb, hg⟩
      rw [show put (stage 129 [(8, m.gen)]) 9 8 m.epoch = stage 129 [(8, m.gen), (8, m.epoch)] from stage_put 129 [(8, m.gen)] 8 m.epoch (by show (8) + 8 ≤ 63; decide)] at hb
      replace L := L.put hb hg (stage_length _ _ (by show (8+8) ≤ 63; decide))
      clear hb hg hx
      generalize w5 = W at L ⊢
      have cc := L.1.1.ms.2.2.2.1
      go_wp2_with fail
      clear cc
      -- seq
      have hx := (show 0 ≤ m.seq ∧ m.seq < 9223372036854775808 by have := HK.out.2.2.1; omega)
      refine (mput_any b3 17 8 m.seq (stage 129 [(8, m.gen), (8, m.epoch)]) W (by omega) (by omega) (by omega) L.2.2.2 hx L.2.1).mono ?_
      rintro e w5 ⟨rfl, hb, hg⟩
      rw [show put (stage 129 [(8, m.gen), (8, m.epoch)]) 17 8 m.seq = stage 129 [(8, m.gen), (8, m.epoch), (8, m.seq)] from stage_put 129 [(8, m.gen), (8, m.epoch)] 8 m.seq (by show (8+8) + 8 ≤ 63; decide)] at hb
      replace L := L.put hb hg (stage_length _ _ (by show (8+8+8) ≤ 63; decide))
      clear hb hg hx
      generalize w5 = W at L ⊢
      have cc := L.1.1.ms.2.2.2.2.1
      go_wp2_with fail
      clear cc
      -- pages
      have hx := (show 0 ≤ m.pages ∧ m.pages < 9223372036854775808 by have := HK.out.2.2.2.1; omega)
      refine (mput_any b3 25 4 m.pages (stage 129 [(8, m.gen), (8, m.epoch), (8, m.seq)]) W (by omega) (by omega) (by omega) L.2.2.2 hx L.2.1).mono ?_
      rintro e w5 ⟨rfl, hb, hg⟩
      rw [show put (stage 129 [(8, m.gen), (8, m.epoch), (8, m.seq)]) 25 4 m.pages = stage 129 [(8, m.gen), (8, m.epoch), (8, m.seq), (4, m.pages)] from stage_put 129 [(8, m.gen), (8, m.epoch), (8, m.seq)] 4 m.pages (by show (8+8+8) + 4 ≤ 63; decide)] at hb
      replace L := L.put hb hg (stage_length _ _ (by show (8+8+8+4) ≤ 63; decide))
      clear hb hg hx
      generalize w5 = W at L ⊢
      have hs0 : 0 ≤ m.sum := HI.out.1
      have hs1 : m.sum < 4294967296 := HI.out.2
      have cc := L.1.1.ms.2.2.2.2.2
      go_wp2_with fail
      clear cc
      -- sum
      have hx := (show 0 ≤ m.sum ∧ m.sum < 9223372036854775808 by have := HI.out; unfold In at this; omega)
      refine (mput_any b3 29 4 m.sum (stage 129 [(8, m.gen), (8, m.epoch), (8, m.seq), (4, m.pages)]) W (by omega) (by omega) (by omega) L.2.2.2 hx L.2.1).mono ?_
      rintro e w5 ⟨rfl, hb, hg⟩
      rw [show put (stage 129 [(8, m.gen), (8, m.epoch), (8, m.seq), (4, m.pages)]) 29 4 m.sum = stage 129 [(8, m.gen), (8, m.epoch), (8, m.seq), (4, m.pages), (4, m.sum)] from stage_put 129 [(8, m.gen), (8, m.epoch), (8, m.seq), (4, m.pages)] 4 m.sum (by show (8+8+8+4) + 4 ≤ 63; decide)] at hb
      replace L := L.put hb hg (stage_length _ _ (by show (8+8+8+4+4) ≤ 63; decide))
      clear hb hg hx
      generalize w5 = W at L ⊢
      -- the sum
      have hfin := L
      have HSL := Lib.hid (stage_length 129 ([(8, m.gen), (8, m.epoch), (8, m.seq), (4, m.pages), (4, m.sum)]) (by show (8+8+8+4+4) ≤ 63; decide))
      have HSO := Lib.hid (stage_octets (b := 129) (by omega) ([(8, m.gen), (8, m.epoch), (8, m.seq), (4, m.pages), (4, m.sum)]))
      have hld := big_load0 Tryz.prog b3 0 (bs (stage 129 ([(8, m.gen), (8, m.epoch), (8, m.seq), (4, m.pages), (4, m.sum)]))) m6 (by rw [bs_length, HSL.out, HM.out.1]) _ L.2.1.range0
      have HL := Lib.hid L
      have HSe := Lib.hid fun w' => msealed_any (stage 129 ([(8, m.gen), (8, m.epoch), (8, m.seq), (4, m.pages), (4, m.sum)])) w' HSL.out HSO.out
      rw [stage_end 129 ([(8, m.gen), (8, m.epoch), (8, m.seq), (4, m.pages), (4, m.sum)]) (by show (8+8+8+4+4) ≤ 59; decide)] at HSe
      have HE := Lib.hid (show sealed (front 129 ([(8, m.gen), (8, m.epoch), (8, m.seq), (4, m.pages), (4, m.sum)])) = layL m from (by unfold layL secL fs; rw [HMK.out]))
      have HLL := Lib.hid (layL_length m)
      generalize sealed (front 129 ([(8, m.gen), (8, m.epoch), (8, m.seq), (4, m.pages), (4, m.sum)])) = Y at *
      generalize stage 129 ([(8, m.gen), (8, m.epoch), (8, m.seq), (4, m.pages), (4, m.sum)]) = Z at *
      clear L hfin
      go_wp2_with fail
      refine (HSe.out _).mono ?_
      rintro e w6 ⟨rfl, hb6⟩
      have L := HL.out.1.on hb6
      have HYL := Lib.hid (show Y.length = 64 by rw [HE.out]; exact HLL.out)
      have HX := Lib.hid L.2.1
      have HB := Lib.hid L.2.2
      clear HL HSe hb6 hld L
      go_wp2_with (first
        | ((with_reducible refine wpList_pg_store (o := ⟨none, .store _ _ _, _, _, _, _⟩) rfl _ _ rfl (w.heap.size + 1) Y pg0 HYL.out rfl rfl rfl HX.out ?_); intro w9 hb9 hg9 _)
        | fail)
      have hldF := big_load0 Tryz.prog (w.heap.size + 1) 0 (bs Y) m6 (by rw [bs_length, HYL.out, HM.out.1]) _ hb9.range0
      generalize hR : bs Y = R at hldF ⊢
      exact bodyPost_ret (v := .agg R.toArray) (by simp [results, Tryz.results51, go_sem, hsz, hldF]) rfl ⟨by rw [HS.out, ← HE.out, hR], below_stored HB.out.1 hg9 HB.out.1.size (by omega)⟩

end Go.Proofs.YtgnpohkippegpaaGreat

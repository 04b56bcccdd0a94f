/-
  DevE GeomE
-/
import Derived.Test.YtgnpohkippegpaaGreatMg03
import Derived.Deep.WholeRow
import Derived.Test.YtgnpohkippegpaaGreatMg01
/-
  Package dev: settle: what becomes of each cached sector, as whatever closure tells.
-/
namespace Go.Proofs.YtgnpohkippegpaaGreat
open Go.RowKit Geom Zone Dev
set_option linter.unusedVariables false

namespace Dev
/-- what settle makes of a list: the closure's state, what stays, what lasts -/
def stl {St : Type} (step : St → Wr → Int × St) : List Wr → St × List Wr × (Pl → Option Value) → St × List Wr × (Pl → Option Value)
  | [], s => s
  | c :: r, (σ, k, f) => stl step r ((step σ c).2, if (step σ c).1 = 0 then k ++ [c] else k, if (step σ c).1 = 1 then updM f c.pl (some (pgv c.2.2)) else f)
theorem stl_snoc {St : Type} (step : St → Wr → Int × St) (c : Wr) : ∀ (l : List Wr) (s : St × List Wr × (Pl → Option Value)), stl step (l ++ [c]) s =
    (((step (stl step l s).1 c).2, if (step (stl step l s).1 c).1 = 0 then (stl step l s).2.1 ++ [c] else (stl step l s).2.1, if (step (stl step l s).1 c).1 = 1 then updM (stl step l s).2.2 c.pl (some (pgv c.2.2)) else (stl step l s).2.2))
  | [], (σ, k, f) => rfl
  | x :: r, (σ, k, f) => stl_snoc step c r _
end Dev

theorem eql_fate (w : World) (a b : Int) : (binOp .eql 106 (.int .i64 a) (.int .i64 b)).run Tryz.prog w = .ok (.bool (a == b)) w := by
  go_simp

section
variable {w : World} {d : Nat} {conv soft seq size opn : Int} {zv : Value} {lb : Nat} {cv : Value} {nb : Nat} {down : Bool} {armed ill : Int}

/-- what is so ahead of each round -/
def StR {St : Type} (w : World) (d : Nat) (conv soft seq size opn : Int) (zv : Value) (lb n1 : Nat) (down : Bool) (armed ill : Int) (J : Nat → Prop) (Inv : St → World → Prop) (k : Nat) (s : St × List Wr × (Pl → Option Value)) (wr : World) : Prop :=
  ∃ cv' nb', DBlk wr d conv soft seq size opn zv lb cv' nb' down armed ill ∧ wr.ownsRow 0 76 66 cv' s.2.1.length (wcs s.2.1) ∧ (∀ g, cv'.ownBlock = some g → w.heap.size ≤ g) ∧ w.heap.size ≤ nb' ∧
    MapIs wr nb' s.2.1.length (newestV s.2.1) ∧ MapIs wr lb (n1 + k) s.2.2 ∧ Inv s.1 wr ∧ Fr (fun x => x = d ∨ x = lb ∨ J x) w wr ∧ WOk s.2.1 ∧ s.2.1.length ≤ k

set_option maxRecDepth 100000 in
set_option maxHeartbeats 4000000 in
theorem settle_any {St : Type} (F : FuncId) (cap2 : Array Value) (step : St → Wr → Int × St) (Inv : St → World → Prop) (J JT : Nat → Prop) (σ : St) (l : List Wr) (n1 n2 : Nat) (last : Pl → Option Value) (hl : WOk l)
    (hw64 : ∀ c ∈ l, W64 c.1 ∧ W64 c.2.1) (hll : l.length ≤ 100000) (hn1 : n1 ≤ 10000000) (hD : DBlk w d conv soft seq size opn zv lb cv nb down armed ill)
    (hcv : w.ownsRow 0 76 66 cv l.length (wcs l)) (hm : MapIs w lb n1 last) (hI : Inv σ w)
    (hJ : ∀ k, J k → k < w.heap.size ∧ k ≠ d ∧ k ≠ lb ∧ cv.ownBlock ≠ some k)
    (hJT : ∀ k, JT k → J k)
    (hJI : ∀ (σ : St) (w' w'' : World), Inv σ w' → (∀ k, J k → w''.heap[k]? = w'.heap[k]?) → Inv σ w'')
    (hE : ∀ (args : Array Value) (w' : World), (callFunc F args).run Tryz.prog w' = .ok (.enter F args) w')
    (hF : ∀ (σ : St) (c : Wr) (w' : World) (cv' : Value) (nb' : Nat), c ∈ l → Inv σ w' → DBlk w' d conv soft seq size opn zv lb cv' nb' down armed ill → w.heap.size ≤ w'.heap.size →
      Calls Tryz.prog F (#[.agg (wc c).toArray] ++ cap2) w' fun e w'' => e = .returned (.int .i64 (step σ c).1) ∧ Inv (step σ c).2 w'' ∧ Fr JT w' w'') :
    Calls Tryz.prog 47 #[dp d, .func (.func F) #[] cap2] w fun x w' => x = .returned (.tuple #[]) ∧ StR w d conv soft seq size opn zv lb n1 down armed ill JT Inv l.length (stl step l (σ, [], last)) w' := by
  obtain ⟨A, cap, rfl⟩ := own_slice hcv
  have hcap := own_cap hcv
  obtain ⟨c5, c6, c7, c8⟩ := hD.mem
  have f7 := hD.frozen 7
  have f8 := hD.frozen 8
  have hS : StR w d conv soft seq size opn zv lb n1 down armed ill JT Inv 0 (stl step (l.take 0) (σ, [], last)) (((w.alloc (.map #[] 0)).setCell ⟨d, 7, none⟩ (.slice none 0 0)).setCell ⟨d, 8, none⟩ (.map (some w.heap.size))) := by
    have hd := hD.lt
    have hD1 : DBlk (w.alloc (.map #[] 0)) d conv soft seq size opn zv lb (.slice A l.length cap) nb down armed ill := hD.same (Below.heap_alloc _ _ _ hd)
    have hf : Fr (fun x => x = d ∨ x = lb ∨ JT x) w (((w.alloc (.map #[] 0)).setCell ⟨d, 7, none⟩ (.slice none 0 0)).setCell ⟨d, 8, none⟩ (.map (some w.heap.size))) := (((Fr.refl w).alloc _).setCell _ _ (.inl rfl)).setCell _ _ (.inl rfl)
    have hne := hD.ne_map hm
    refine ⟨.slice none 0 0, w.heap.size, (hD1.set7 _).set8 _, ⟨rfl, .inl ⟨rfl, rfl⟩⟩, (fun g h => by cases h), Nat.le_refl _, ?_, ?_, ?_, hf, (fun c h => by simp [stl] at h), by simp [stl]⟩
    · exact (MapIs.made w).same ((heap_setCell_other _ _ _ _ (by simp; omega)).trans (heap_setCell_other _ _ _ _ (by simp; omega)))
    · exact hm.same ((heap_setCell_other _ _ _ _ (fun e => hne e.symm)).trans ((heap_setCell_other _ _ _ _ (fun e => hne e.symm)).trans (Below.heap_alloc _ _ _ hm.lt)))
    · refine hJI _ _ _ hI fun k hk => ?_
      obtain ⟨j1, j2, _⟩ := hJ k hk
      exact ((heap_setCell_other _ _ _ _ j2).trans ((heap_setCell_other _ _ _ _ j2).trans (Below.heap_alloc _ _ _ j1)))
  have f8a : ((w.alloc (.map #[] 0)).setCell ⟨d, 7, none⟩ (.slice none 0 0)).frozen? ⟨d, 8, none⟩ = false := by
    have hD1 : DBlk (w.alloc (.map #[] 0)) d conv soft seq size opn zv lb (.slice A l.length cap) nb down armed ill := hD.same (Below.heap_alloc _ _ _ hD.lt)
    exact (hD1.set7 _).frozen 8
  have c8a : ((w.alloc (.map #[] 0)).setCell ⟨d, 7, none⟩ (.slice none 0 0)).cell? ⟨d, 8, none⟩ = some (.map (some nb)) := by
    have hD1 : DBlk (w.alloc (.map #[] 0)) d conv soft seq size opn zv lb (.slice A l.length cap) nb down armed ill := hD.same (Below.heap_alloc _ _ _ hD.lt)
    exact (hD1.set7 _).mem.2.2.2
  have c7a : (w.alloc (.map #[] 0)).cell? ⟨d, 7, none⟩ = some (.slice A l.length cap) := (World.cell?_alloc_lt w _ ⟨d, 7, none⟩ hD.lt).trans c7
  have c8b : (w.alloc (.map #[] 0)).cell? ⟨d, 8, none⟩ = some (.map (some nb)) := (World.cell?_alloc_lt w _ ⟨d, 8, none⟩ hD.lt).trans c8
  have f7a : (w.alloc (.map #[] 0)).frozen? ⟨d, 7, none⟩ = false := (World.frozen?_of_block (Below.heap_alloc w _ d hD.lt)).trans f7
  have f8b : (w.alloc (.map #[] 0)).frozen? ⟨d, 8, none⟩ = false := (World.frozen?_of_block (Below.heap_alloc w _ d hD.lt)).trans f8
  have HS := Lib.hid hS
  have HCV := Lib.hid hcv
  obtain ⟨m, hm66, hsz⟩ := big_size (P := Tryz.prog) (t := 76) (s := 66) (by kernel_rfl)
  have HM := Lib.hid hm66
  have HF := Lib.hid hF
  have HJ := Lib.hid hJ
  have HJI := Lib.hid hJI
  have HJT := Lib.hid hJT
  have HW := Lib.hid hw64
  have HL := Lib.hid hl
  have HD := Lib.hid hD
  have hlbg : ∀ (g : Nat), (Value.slice A l.length cap).ownBlock = some g → lb ≠ g := fun g h => hm.ne_row hcv h
  have HLB := Lib.hid hlbg
  have HLT := Lib.hid hm.lt
  clear hlbg
  have hml : l.length ≤ maxLen := by unfold maxLen; omega
  unfold maxLen at hml
  clear hS hcv hm66 hF hJ hJT hJI hw64 hl hm hI
  have hmm := @run_makeMap Tryz.prog
  go_enter Tryz.func47, Tryz.ntmps47
  go_wp2
  clear c5 c6 c7 c8 f7 f8 f8a c8a c7a c8b f7a f8b hD
  go_loopw [20] (fun i wr => ∃ k : Nat, k ≤ l.length ∧ i = .int .i64 k ∧ StR w d conv soft seq size opn zv lb n1 down armed ill JT Inv k (stl step (l.take k) (σ, [], last)) wr) (fun i _ => l.length - (intOf i).toNat)
  case atStart => exact ⟨0, by omega, rfl, HS.out⟩
  case round =>
    obtain ⟨k, hk, rfl, hR⟩ := hrel
    by_cases hlt : k < l.length
    · obtain ⟨cv', nb', hDr, hcr, hcb, hnbs, hmn, hml1, hInv, hFr, hWO, hle⟩ := hR
      obtain ⟨c, hck⟩ : ∃ c, l[k]? = some c := ⟨_, List.getElem?_eq_getElem hlt⟩
      obtain ⟨g, rfl, _, hgw⟩ := own_at HCV.out (by omega)
      have hcl := List.mem_of_getElem? hck
      have hlen : (wc c).length = 66 := wc_length (HL.out c hcl)
      have hlenm : (wc c).length = m := by rw [hlen, HM.out]
      have hgN : ¬ (g = d ∨ g = lb ∨ JT g) := by
        rintro (h | h | h)
        · exact HD.out.ne_row HCV.out rfl (by decide) h.symm
        · exact HLB.out g rfl h.symm
        · exact (HJ.out g (HJT.out g h)).2.2.2 rfl
      have hRg : wr.rangeAt g (k * m) (wc c) := fun j v hj => by
        rw [hFr.cell (a := ⟨g, k * m + j, none⟩) hgw hgN, HM.out]
        have := wcs_get HL.out hck j v hj
        exact (Rd.own HCV.out).cell0 this
      have hld0 := big_load0 Tryz.prog g (k * m) (wc c) m hlenm wr hRg
      have hst := run_storeCells_new (P := Tryz.prog) wr 76 Tryz.zeroCells76 (wc c).toArray (by rw [List.size_toArray, hlen]; kernel_rfl) (Eq.trans (b := 66) (by kernel_rfl) (by rw [List.size_toArray, hlen])) (all_oneCell_toArray fun u hu => wc_cells hu)
      have hldb := big_load0 Tryz.prog wr.heap.size 0 (wc c) m hlenm (wr.alloc (.cells (wc c).toArray 76)) (fun j v hj => by rw [Nat.zero_add]; exact box_cells wr _ _ j v hj)
      have HLn := Lib.hid hlen
      have hkI : (k : Int) < (l.length : Int) := by omega
      have hwr := hFr.size
      have hw1 : ∀ x, x < wr.heap.size → (wr.alloc (.cells (wc c).toArray 76)).heap[x]? = wr.heap[x]? := fun x hx => Below.heap_alloc _ _ _ hx
      have hD1 : DBlk (wr.alloc (.cells (wc c).toArray 76)) d conv soft seq size opn zv lb cv' nb' down armed ill := hDr.same (hw1 _ hDr.lt)
      have hI1 : Inv (stl step (l.take k) (σ, [], last)).1 (wr.alloc (.cells (wc c).toArray 76)) := HJI.out _ _ _ hInv fun x hx => hw1 x (by have := (HJ.out x hx).1; omega)
      have hC1 := HF.out _ c _ cv' nb' hcl hI1 hD1 (by simp; omega)
      have HE := Lib.hid (show stl step (l.take (k + 1)) (σ, [], last) = _ from by rw [take_succ hck, stl_snoc])
      generalize hs : stl step (l.take k) (σ, [], last) = s at *
      obtain ⟨σk, ck, lk⟩ := s
      simp only at hcr hmn hml1 hWO hle hC1 HE
      generalize hr : step σk c = r at hC1 HE
      obtain ⟨f, σ'⟩ := r
      simp only at hC1 HE
      have HP : ∀ w2, Fr JT (wr.alloc (.cells (wc c).toArray 76)) w2 → DBlk w2 d conv soft seq size opn zv lb cv' nb' down armed ill ∧ w2.ownsRow 0 76 66 cv' ck.length (wcs ck) ∧
          MapIs w2 nb' ck.length (newestV ck) ∧ MapIs w2 lb (n1 + k) lk ∧ Fr (fun x => x = d ∨ x = lb ∨ JT x) w w2 ∧ w2.rangeAt wr.heap.size 0 (wc c) ∧ wr.heap.size < w2.heap.size := by
        intro w2 h2
        have hnb1 := hmn.lt
        have hlb1 := hml1.lt
        have hd1 := hDr.lt
        have e : ∀ x, x < wr.heap.size → ¬ J x → w2.heap[x]? = wr.heap[x]? := fun x hx hj => (h2.same (by simp; omega) (fun h => hj (HJT.out x h))).trans (hw1 x hx)
        refine ⟨hDr.same (e _ hd1 fun hj => (HJ.out d hj).2.1 rfl), own_same hcr fun g hg => e g (hcr.lt g hg).2 fun hj => by have h8 := (HJ.out g hj).1; have h9 := hcb g hg; omega, hmn.same (e _ hnb1 fun hj => by have := (HJ.out _ hj).1; omega),
          hml1.same (e _ hlb1 fun hj => (HJ.out _ hj).2.2.1 rfl), (hFr.alloc _).trans (h2.mono fun x _ hx => .inr (.inr hx)), fun j v hj => ?_, Nat.lt_of_lt_of_le (by simp) h2.size⟩
        rw [h2.cell (a := ⟨wr.heap.size, 0 + j, none⟩) (by simp) (fun hj => by have h8 : wr.heap.size < w.heap.size := (HJ.out _ (HJT.out _ hj)).1; omega), Nat.zero_add]
        exact box_cells wr _ _ j v hj
      have HP := Lib.hid HP
      have HC1 := Lib.hid hC1
      have HX := Lib.hid (And.intro hcb (And.intro hnbs (And.intro hWO (And.intro hle hwr))))
      clear hInv hFr hmn hml1 hWO hle hcr hcb hnbs hck hlen hRg hgN hw1 hD1 hI1 hC1 hs hr hwr
      go_wp2_with fail
      refine HC1.out.mono ?_
      rintro e w2 ⟨rfl, hI2, hF2⟩
      obtain ⟨hD2, hcr2, hmn2, hml2, hFr2, hRg2, hlt2⟩ := HP.out w2 hF2
      have hld2 := big_load0 Tryz.prog wr.heap.size 0 (wc c) m hlenm w2 hRg2
      by_cases hf0 : f = 0
      · subst hf0
        go_wp2_with fail
        refine (hold_any c ck ck.length (HL.out c hcl) HX.out.2.2.1 (HW.out c hcl).1 (HW.out c hcl).2 (by have := HX.out.2.2.2.1; omega) (by have := HX.out.2.2.2.1; omega) hD2 hcr2 hmn2).mono ?_
        rintro e w3 ⟨rfl, cv3, hD3, hcr3, hmn3, hF3, hat3⟩
        have HK : StR w d conv soft seq size opn zv lb n1 down armed ill JT Inv (k + 1) (stl step (l.take (k + 1)) (σ, [], last)) w3 := by
          rw [HE.out]
          obtain ⟨x1, x2, x3, x4, x5⟩ := HX.out
          have hnb0 : nb' ≠ lb := fun h => by have := HLT.out; omega
          have hlk : lb < w2.heap.size := hml2.lt
          have e : ∀ x, x < w2.heap.size → x ≠ d → x ≠ nb' → cv'.ownBlock ≠ some x → w3.heap[x]? = w2.heap[x]? := fun x hx h1 h2 h3 => hF3.same hx (fun h => h.elim h1 fun h => h.elim h2 h3)
          refine ⟨cv3, nb', hD3, by simpa using hcr3, fun g' hg' => ?_, x2, by simpa using hmn3, ?_, ?_, hFr2.andThen hF3 (fun x hx h => h.elim .inl fun h => h.elim (fun h => by omega) fun h => by have := x1 x h; omega), ?_, by simp; omega⟩
          · rcases hat3 with h | ⟨g2, h, h'⟩
            · exact x1 g' (h ▸ hg')
            · rw [h] at hg'
              injection hg' with hg'
              have := hFr2.size
              omega
          · exact (hml2.mono (by omega)).same (e lb hlk (fun h => hD2.ne_map hml2 h.symm) (fun h => hnb0 h.symm) (fun h => hml2.ne_row hcr2 h rfl))
          · exact HJI.out _ _ _ hI2 fun x hx => by
              have h1 := (HJ.out x hx).1
              refine e x (by omega) (HJ.out x hx).2.1 (by omega) (fun h => by have := x1 x h; omega)
          · intro y hy
            rcases List.mem_append.1 hy with hy | hy
            · exact x3 y hy
            · rw [List.mem_singleton.1 hy]
              exact HL.out c hcl
        have HK := Lib.hid HK
        clear hD2 hcr2 hmn2 hml2 hFr2 hRg2 hI2 hF2 hD3 hcr3 hmn3 hF3 hat3
        go_wp2
        go_roundw
        case rel => exact ⟨k + 1, by omega, by go_num, HK.out⟩
        case measure => simp [intOf]; omega
      by_cases hf1 : f = 1
      · subst hf1
        obtain ⟨m8, hm8, hsz8⟩ := big_size (P := Tryz.prog) (t := 43) (s := 64) (by kernel_rfl)
        have hm80 : ¬ m8 = 0 := by omega
        have hbl : (bs c.2.2).length = m8 := by rw [bs_length, HL.out c hcl, hm8]
        have hq : w2.cell? ⟨wr.heap.size, 0, none⟩ = some (.int .i64 c.1) ∧ w2.cell? ⟨wr.heap.size, 1, none⟩ = some (.int .i64 c.2.1) := ⟨hRg2 0 _ rfl, hRg2 1 _ rfl⟩
        obtain ⟨q0, q1⟩ := hq
        have hld8 := big_load0 Tryz.prog wr.heap.size 2 (bs c.2.2) m8 hbl w2.drew (fun j v hj => by
          have := hRg2 (2 + j) v (by rw [show (2 + j) = j + 1 + 1 by omega]; exact hj)
          rw [Nat.zero_add] at this
          exact this)
        have c6 := hD2.mem.2.1
        have HM8 := Lib.hid (And.intro hm8 hbl)
        have HA := Lib.hid (And.intro hD2 (And.intro hcr2 (And.intro hmn2 (And.intro hml2 (And.intro hFr2 (And.intro hI2 hF2))))))
        clear hm8 hbl hD2 hcr2 hmn2 hml2 hFr2 hRg2 hI2 hF2
        go_wp2_with fail
        go_still_tail 8, (by kernel_rfl)
        change wpList _ _ _ _ _ w2.drew
        obtain ⟨hD2, hcr2, hmn2, hml2, hFr2, hI2, hF2⟩ := HA.out
        refine wpList_place_store _ rfl _ _ _ _ rfl 43 Tryz.underlying61 lb (n1 + k) _ rfl (hml2.same rfl) (by unfold maxLen; omega) c.pl rfl (HW.out c hcl).1 (HW.out c hcl).2 (pgv c.2.2) rfl ?_
        intro w3 hml3 ht3
        have HK : StR w d conv soft seq size opn zv lb n1 down armed ill JT Inv (k + 1) (stl step (l.take (k + 1)) (σ, [], last)) w3 := by
          rw [HE.out]
          obtain ⟨x1, x2, x3, x4, x5⟩ := HX.out
          have hg3 := ht3.grown
          have hlk : lb < w2.heap.size := hml2.lt
          have hl0 := HLT.out
          have e : ∀ x, x < w2.heap.size → x ≠ lb → w3.heap[x]? = w2.heap[x]? := fun x hx h1 => hg3.block x hx (fun e => h1 (by injection e))
          refine ⟨cv', nb', hD2.same (e d hD2.lt (hD2.ne_map hml2)), ?_, x1, x2, hmn2.same (e nb' hmn2.lt (by omega)), ?_, ?_, ?_, ?_, ?_⟩
          · exact own_same hcr2 fun g' hg' => e g' (hcr2.lt g' hg').2 (fun h => hml2.ne_row hcr2 (h ▸ hg') rfl)
          · exact hml3
          · exact HJI.out _ _ _ hI2 fun x hx => e x (by have := (HJ.out x hx).1; omega) (HJ.out x hx).2.2.1
          · exact hFr2.andThen ((Fr.refl w2).drew.trans (Fr.of_grown (T := fun x => x = lb) hg3 (fun k e => by injection e with e; exact e.symm))) fun b hb h => .inr (.inl h)
          · simpa using x3
          · simp; omega
        have HK := Lib.hid HK
        clear hD2 hcr2 hmn2 hml2 hFr2 hI2 hF2 hml3 ht3 HA hld8 q0 q1 c6
        go_frame
        go_wp2
        go_roundw
        case rel => exact ⟨k + 1, by omega, by go_num, HK.out⟩
        case measure => simp [intOf]; omega
      have hq0 : (f == 0) = false := by simpa using hf0
      have hq1 : (f == 1) = false := by simpa using hf1
      have HK : StR w d conv soft seq size opn zv lb n1 down armed ill JT Inv (k + 1) (stl step (l.take (k + 1)) (σ, [], last)) w2 := by
        rw [HE.out]
        obtain ⟨x1, x2, x3, x4, x5⟩ := HX.out
        simp only [if_neg hf0, if_neg hf1]
        exact ⟨cv', nb', hD2, hcr2, x1, x2, hmn2, hml2.mono (by omega), hI2, hFr2, x3, by simp; omega⟩
      have HK := Lib.hid HK
      clear hD2 hcr2 hmn2 hml2 hFr2 hRg2 hI2 hF2
      go_wp2
      go_roundw
      case rel => exact ⟨k + 1, by omega, by go_num, HK.out⟩
      case measure => simp [intOf]; omega
    · obtain rfl : k = l.length := by omega
      rw [List.take_length] at hR
      have HR := Lib.hid hR
      clear hR
      go_wp2
      go_end0
      exact ⟨rfl, HR.out⟩
end
end Go.Proofs.YtgnpohkippegpaaGreat

/-
  What the document's answers for package geom do: Blocks, Pages, Right, Sectors.
-/
namespace Go.Proofs.YtgnpohkippegpaaGreat
open Go.RowKit Geom
set_option linter.unusedVariables false

set_option maxHeartbeats 400000 in
theorem rblocks_any (conv soft seq size opn : Int) (w : World) (H : Some conv seq size) :
    Calls Tryz.prog 26 #[.agg #[.int .i64 conv, .int .i64 soft, .int .i64 seq, .int .i64 size, .int .i64 opn]] w fun e w' => e = .returned (.int .i64 (blocks seq size)) ∧ Below w.heap.size w w' := by
  have hp := prod_bd H
  have hb0 : Below w.heap.size w (w.alloc (.cells #[.int .i64 conv, .int .i64 soft, .int .i64 seq, .int .i64 size, .int .i64 opn] 23)) := (Below.refl _ _).alloc (Nat.le_refl _) _
  have HB := Lib.hid (show blocks seq size = min ((seq - 5) * (size / 2)) 4096 from rfl)
  obtain ⟨q1, q2, q3, q4, q5⟩ := H
  have HK := Lib.hid (fun (k : Int) (h : 5 ≤ k) (h2 : k ≤ seq) => mul_in (show 0 ≤ k - 5 by omega) (show k - 5 ≤ 64 by omega) (show 0 ≤ size / 2 by omega) (show size / 2 ≤ 128 by omega))
  go_enter Tryz.func26, Tryz.ntmps26
  go_wp2
  go_loop [3, 4] (fun n i => ∃ k : Int, 5 ≤ k ∧ k ≤ seq ∧ i = .int .i64 k ∧ n = .int .i64 ((k - 5) * (size / 2))) (fun _ i => (seq - intOf i).toNat)
  case atStart => exact ⟨5, by omega, by omega, rfl, by simp⟩
  case round =>
    obtain ⟨k, hk0, hk1, rfl, rfl⟩ := hrel
    obtain ⟨m0, m1⟩ := HK.out k hk0 hk1
    by_cases hlt : k < seq
    · have HN := Lib.hid (show (k + 1 - 5) * (size / 2) = (k - 5) * (size / 2) + size / 2 by rw [show k + 1 - 5 = k - 5 + 1 by omega, Int.add_mul, Int.one_mul])
      generalize (k - 5) * (size / 2) = m at *
      go_wp2
      go_round
      case rel => exact ⟨k + 1, by omega, by omega, rfl, by rw [HN.out]⟩
      case measure => simp [intOf]; omega
    · obtain rfl : k = seq := by omega
      by_cases hbig : 4096 < (k - 5) * (size / 2)
      · have HR := Lib.hid (show blocks k size = 4096 by rw [HB.out]; omega)
        generalize (k - 5) * (size / 2) = m at *
        go_wp2
        go_ret
        exact ⟨ret_int HR.out, hb0⟩
      · have HR := Lib.hid (show blocks k size = (k - 5) * (size / 2) by rw [HB.out]; omega)
        generalize (k - 5) * (size / 2) = m at *
        go_wp2
        go_ret
        exact ⟨ret_int HR.out, hb0⟩

set_option maxHeartbeats 400000 in
theorem rpages_any (conv soft seq size opn : Int) (w : World) (H : Some conv seq size) :
    Calls Tryz.prog 25 #[.agg #[.int .i64 conv, .int .i64 soft, .int .i64 seq, .int .i64 size, .int .i64 opn]] w fun e w' => e = .returned (.int .i64 (pages seq size)) ∧ Below w.heap.size w w' := by
  have hb := blocks_bd H
  have hbox := Lies.new w conv soft seq size opn 23 (0, 0)
  have hb0 : Below w.heap.size w (w.alloc (.cells #[.int .i64 conv, .int .i64 soft, .int .i64 seq, .int .i64 size, .int .i64 opn] 23)) := (Below.refl _ _).alloc (Nat.le_refl _) _
  have HP := Lib.hid (show pages seq size = (blocks seq size + 9) / 10 from rfl)
  have HR := Lib.hid fun w => rblocks_any conv soft seq size opn w H
  generalize blocks seq size = b at *
  generalize pages seq size = p at *
  obtain ⟨hb1, hb2⟩ := hb
  have H0 := Lib.hid (And.intro hbox hb0)
  clear hbox hb0 H
  go_enter Tryz.func25, Tryz.ntmps25
  go_wp2
  go_loopw [3] (fun n wr => ∃ k : Int, 0 ≤ k ∧ k ≤ (b + 9) / 10 ∧ n = .int .i64 k ∧ Lies wr w.heap.size conv soft seq size opn ∧ Below w.heap.size w wr) (fun n _ => (410 - intOf n).toNat)
  case atStart => exact ⟨0, by omega, by omega, rfl, H0.out⟩
  case round =>
    clear H0
    obtain ⟨k, hk0, hk1, rfl, hl, hbl⟩ := hrel
    obtain ⟨c0, c1, c2, c3, c4, hlt⟩ := id hl
    go_wp2_with fail
    refine (HR.out _).mono ?_
    rintro e w1 ⟨rfl, hb3⟩
    have hl1 := hl.below hb3
    have hbl1 := hbl.trans (hb3.mono hbl.size)
    clear c0 c1 c2 c3 c4 hlt hl hbl hb3
    by_cases hlt : 10 * k < b
    · go_wp2
      go_roundw
      case rel => exact ⟨k + 1, by omega, by omega, rfl, hl1, hbl1⟩
      case measure => simp [intOf]; omega
    · have HQ := Lib.hid (show p = k by rw [HP.out]; omega)
      go_wp2
      go_ret
      exact ⟨ret_int HQ.out, hbl1⟩

/-- a measure lies in w', behind w's blocks -/
@[reducible] def One (w w' : World) (conv soft seq size opn : Int) : Prop := Lies w' w.heap.size conv soft seq size opn ∧ Below w.heap.size w w'
theorem One.below {w w' w2 : World} {conv soft seq size opn : Int} (h : One w w' conv soft seq size opn) (hb : Below w'.heap.size w' w2) : One w w2 conv soft seq size opn :=
  ⟨h.1.below hb, h.2.trans (hb.mono h.2.size)⟩

set_option maxHeartbeats 4000000 in
theorem rright_any (conv soft seq size opn : Int) (w : World) :
    Calls Tryz.prog 19 #[.agg #[.int .i64 conv, .int .i64 soft, .int .i64 seq, .int .i64 size, .int .i64 opn]] w fun e w' => e = .returned (.bool (okB conv soft seq size opn)) ∧ Below w.heap.size w w' := by
  have H0 := Lib.hid (show One w (w.alloc (.cells #[.int .i64 conv, .int .i64 soft, .int .i64 seq, .int .i64 size, .int .i64 opn] 23)).drew conv soft seq size opn from ⟨Lies.new w conv soft seq size opn 23 (0, 0), ((Below.refl _ _).alloc (Nat.le_refl _) _).drew⟩)
  have hb0 : Below w.heap.size w (w.alloc (.cells #[.int .i64 conv, .int .i64 soft, .int .i64 seq, .int .i64 size, .int .i64 opn] 23)) := (Below.refl _ _).alloc (Nat.le_refl _) _
  have HN := Lib.hid fun h => ok_no (conv := conv) (soft := soft) (seq := seq) (size := size) (opn := opn) h
  by_cases g0 : conv < 2
  · have HD := Lib.hid (HN.out (by unfold Ok; omega))
    clear H0
    go_enter Tryz.func19, Tryz.ntmps19
    go_wp2
    go_ret
    exact ⟨ret_bool HD.out, hb0⟩
  have n0 : decide (conv < 2) = false := decide_eq_false g0
  by_cases g1 : 64 < conv
  · have HD := Lib.hid (HN.out (by unfold Ok; omega))
    clear H0
    go_enter Tryz.func19, Tryz.ntmps19
    go_wp2
    go_ret
    exact ⟨ret_bool HD.out, hb0⟩
  have n1 : decide (64 < conv) = false := decide_eq_false g1
  by_cases g2 : seq < 6
  · have HD := Lib.hid (HN.out (by unfold Ok; omega))
    clear H0
    go_enter Tryz.func19, Tryz.ntmps19
    go_wp2
    go_ret
    exact ⟨ret_bool HD.out, hb0⟩
  have n2 : decide (seq < 6) = false := decide_eq_false g2
  by_cases g3 : 64 < seq
  · have HD := Lib.hid (HN.out (by unfold Ok; omega))
    clear H0
    go_enter Tryz.func19, Tryz.ntmps19
    go_wp2
    go_ret
    exact ⟨ret_bool HD.out, hb0⟩
  have n3 : decide (64 < seq) = false := decide_eq_false g3
  by_cases g4 : 64 < conv + seq
  · have HD := Lib.hid (HN.out (by unfold Ok; omega))
    clear H0
    go_enter Tryz.func19, Tryz.ntmps19
    go_wp2
    go_ret
    exact ⟨ret_bool HD.out, hb0⟩
  have n4 : decide (64 < conv + seq) = false := decide_eq_false g4
  by_cases g5 : size < 8
  · have HD := Lib.hid (HN.out (by unfold Ok; omega))
    clear H0
    go_enter Tryz.func19, Tryz.ntmps19
    go_wp2
    go_ret
    exact ⟨ret_bool HD.out, hb0⟩
  have n5 : decide (size < 8) = false := decide_eq_false g5
  by_cases g6 : 256 < size
  · have HD := Lib.hid (HN.out (by unfold Ok; omega))
    clear H0
    go_enter Tryz.func19, Tryz.ntmps19
    go_wp2
    go_ret
    exact ⟨ret_bool HD.out, hb0⟩
  have n6 : decide (256 < size) = false := decide_eq_false g6
  by_cases g7 : opn < 3
  · have HD := Lib.hid (HN.out (by unfold Ok; omega))
    clear H0
    go_enter Tryz.func19, Tryz.ntmps19
    go_wp2
    go_ret
    exact ⟨ret_bool HD.out, hb0⟩
  have n7 : decide (opn < 3) = false := decide_eq_false g7
  by_cases g8 : 65536 < soft
  · have HD := Lib.hid (HN.out (by unfold Ok; omega))
    clear H0
    go_enter Tryz.func19, Tryz.ntmps19
    go_wp2
    go_ret
    exact ⟨ret_bool HD.out, hb0⟩
  have n8 : decide (65536 < soft) = false := decide_eq_false g8
  have H : Some conv seq size := ⟨by omega, by omega, by omega, by omega, by omega⟩
  have hp := pages_bd H
  have HY := Lib.hid (show okB conv soft seq size opn = decide (pages seq size + 3 ≤ soft) by
    exact decide_eq_decide.2 ⟨fun h => h.2.2.2.2.2.2.1, fun h => ⟨by omega, by omega, by omega, by omega, by omega, by omega, h, by omega⟩⟩)
  have HH := Lib.hid fun w => rpages_any conv soft seq size opn w H
  generalize pages seq size = p at *
  obtain ⟨p0, p1⟩ := hp
  have hq := IntWalk.i64_in (p + 3) (by omega)
  clear H hb0
  go_enter Tryz.func19, Tryz.ntmps19
  go_wp2
  refine wp_region_class (fun w' => One w w' conv soft seq size opn) (by kernel_rfl) (by kernel_rfl) H0.out ?_
  intro X hX f hf hg
  have c0 := fun x => (hf x).1.1
  have c1 := fun x => (hf x).1.2.1
  have c2 := fun x => (hf x).1.2.2.1
  have c3 := fun x => (hf x).1.2.2.2.1
  have c4 := fun x => (hf x).1.2.2.2.2.1
  have Hf := Lib.hid hf
  have Hg := Lib.hid hg
  clear hf hg H0
  repeat (go_big_quiet_step (exact calls_class (HH.out _) (fun _ hb => Hg.out _ ((Hf.out _).below hb))))
  refine wpQuiet_nil ?_
  rintro _ ⟨x, rfl⟩
  have hbb := (Hf.out x).2
  go_wp2
  go_ret
  exact ⟨ret_bool HY.out, hbb⟩

end Go.Proofs.YtgnpohkippegpaaGreat

/-
  The law TransHandles of layer 18.
-/
import Derived.Test.YtakpeboicmgnpaaTrX
namespace Go.Proofs.Ytakpeboicmgnpaa
open Go.RowKit Word Tran
set_option linter.unusedVariables false

section
variable {P : Program} {ops : Array Oper} {md : Region.Mode} {Q : Exit → Act → World → Prop} {S : World → Prop}
/-- two operations may come up, each of which does more than yield -/
theorem heldT_two {l : List Oper} {n f i j : Nat} {oi oj : Oper} {listed : Array Bool} {a : Act} {w : World} (hoi : ops[i]? = some oi) (hoj : ops[j]? = some oj) (hr : Region.ready md ops listed = [i, j]) (hin : i < n) (hjn : j < n)
    (h1 : ∀ K' : Act → World → Prop, Shut (∀ a w, S w → HeldT P md ops Q S l n f (listed.setIfInBounds i true) a w → K' a w) → if Region.wanted oi (yielded ops a.tmps) = true then Oper.wp P oi a w K' Q else K' (a.put oi.dst undef) w)
    (h2 : ∀ K' : Act → World → Prop, Shut (∀ a w, S w → HeldT P md ops Q S l n f (listed.setIfInBounds j true) a w → K' a w) → if Region.wanted oj (yielded ops a.tmps) = true then Oper.wp P oj a w K' Q else K' (a.put oj.dst undef) w) :
    HeldT P md ops Q S l n (f + 1) listed a w := fun inv => by
  have hmi : i ∈ Region.ready md ops listed := by rw [hr]; simp
  have hmj : j ∈ Region.ready md ops listed := by rw [hr]; simp
  refine ⟨fun h0 => (by rw [h0] at hr; cases hr), fun k hk => ?_⟩
  rw [hr] at hk
  rcases List.mem_cons.1 hk with rfl | hk
  · exact ⟨hin, wpOp_step hoi (fun K' hK => h1 K' (fun a w hS hW => hK a w ⟨hS, hW (inv.set hmi hin)⟩))⟩
  · obtain rfl := List.mem_singleton.1 hk
    exact ⟨hjn, wpOp_step hoj (fun K' hK => h2 K' (fun a w hS hW => hK a w ⟨hS, hW (inv.set hmj hjn)⟩))⟩
/-- a variable of whatever size is made, at a step of a region that draws its order -/
theorem step_alloc_var (w : World) {o : Oper} {a : Act} {K : Act → World → Prop} {E : Prop} (hgd : o.guard = none) (t : TypeId) (ho : o.op = .alloc t) (cs : List Value) (hz : ∀ w, (zeroValue t).run P w = .ok (.agg cs.toArray) w)
    (h : ∀ w', Box w' w.heap.size t cs → Below w.heap.size w w' → K (a.put o.dst (.pointer (some ⟨w.heap.size, 0, none⟩))) w') : if Region.wanted o (yielded ops a.tmps) = true then Oper.wp P o a w K Q else E := by
  have hw : Region.wanted o (yielded ops a.tmps) = true := by simp [Region.wanted, hgd]
  rw [if_pos hw]
  have e : (Instr.alloc t true (.tuple #[])).run P w = .ok (.pointer (some ⟨w.heap.size, 0, none⟩)) (w.alloc (.cells cs.toArray t)) := by
    simp [Instr.alloc, hz w, newVar, newRow, newObj, Value.cells]
    rfl
  unfold Oper.wp execOp
  simp only [ho, Sem.run_bind, e, Result.andThen_ok]
  exact h _ (Box.new w t cs) ((Below.refl _ _).alloc (Nat.le_refl _) _)
end
/-- what the law's ledger holds -/
structure HdT (nx : Int) (T : List Tn) : Prop where
  few : T.length ≤ 16
  each : ∀ t ∈ T, t.ws = [] ∧ 0 ≤ t.id ∧ t.id < nx
  rise : Rise (ids T)
theorem HdT.drop {nx : Int} {T : List Tn} (h : HdT nx T) (id : Int) : HdT nx (dropT id T) := by
  rw [dropT_filter id h.rise]
  exact ⟨Nat.le_trans (List.length_filter_le _ _) h.few, fun t ht => h.each t (List.mem_filter.1 ht).1, List.Pairwise.sublist (List.filter_sublist.map _) h.rise⟩
theorem HdT.more {nx now : Int} {T : List Tn} (h : HdT nx T) (h0 : 0 ≤ nx) (hl : T.length < 16) : HdT (nx + 1) (T ++ [⟨nx, now, []⟩]) := by
  refine ⟨by simp; omega, fun t ht => ?_, ?_⟩
  · rcases List.mem_append.1 ht with ht | ht
    · have := h.each t ht
      exact ⟨this.1, this.2.1, by omega⟩
    · rw [List.mem_singleton.1 ht]
      exact ⟨rfl, h0, by show nx < nx + 1; omega⟩
  · show Rise (List.map Tn.id _)
    rw [List.map_append]
    refine rise_snoc.2 ⟨h.rise, fun x hx => ?_⟩
    obtain ⟨t, ht, rfl⟩ := List.mem_map.1 hx
    exact (h.each t ht).2.2
theorem HdT.nil : HdT 0 [] := ⟨by decide, by simp, rise_nil⟩
theorem HdT.tin {nx : Int} {l : List Tv} (h : HdT nx (l.map Tv.t)) : ∀ y ∈ l, TIn y.t := fun y hy => by
  have := (h.each y.t (List.mem_map.2 ⟨y, hy, rfl⟩)).1
  exact ⟨by rw [this]; decide, fun o ho => by rw [this] at ho; cases ho⟩
theorem HdT.ri {nx : Int} {l : List Tv} (h : HdT nx (l.map Tv.t)) (h0 : 0 ≤ nx) (h1 : nx ≤ 1099511627776) : RiL nx l := by
  refine ⟨by have := h.few; rwa [List.length_map] at this, h0, h1, fun y hy => ?_, h.rise⟩
  have := h.each y.t (List.mem_map.2 ⟨y, hy, rfl⟩)
  refine ⟨⟨?_, ?_⟩, this.2⟩
  · rw [this.1]; exact rise_nil
  · rw [this.1]; decide
/-- what stands in memory in the loop -/
structure HdSt (w wr : World) (b3 : Nat) (x : Lv) : Prop where
  bx : TBx w wr [(b3, 39, lgc x)]
  own : LOwn wr w.heap.size x
  lo : w.heap.size ≤ b3
theorem HdSt.on {w wr w' : World} {b3 : Nat} {x : Lv} (h : HdSt w wr b3 x) (hb : Below wr.heap.size wr w') : HdSt w w' b3 x := ⟨h.bx.on hb, h.own.on hb, h.lo⟩
theorem HdSt.put {w wr w' : World} {b3 : Nat} {x y : Lv} (h : HdSt w wr b3 x) (ho : LOwn wr w.heap.size y) (hx : Box w' b3 39 (lgc y)) (hg : wr.grownBy w' (some b3)) : HdSt w w' b3 y :=
  ⟨⟨fun q hq => by rw [List.mem_singleton.1 hq]; exact hx, below_stored h.bx.2 hg h.bx.2.size h.lo⟩, ho.box h.bx.head lg_ne1 lg_ne2 hg, h.lo⟩
theorem HdSt.beside {w wr w' : World} {b3 b : Nat} {x : Lv} (h : HdSt w wr b3 x) (hg : wr.grownBy w' (some b)) (hne : b3 ≠ b) (hb : w.heap.size ≤ b) (y : Box wr b 39 (lgc lz)) : HdSt w w' b3 x :=
  ⟨⟨fun q hq => by rw [List.mem_singleton.1 hq]; exact h.bx.head.grown hg hne, below_stored h.bx.2 hg h.bx.2.size hb⟩, h.own.box y lg_ne1 lg_ne2 hg, h.lo⟩
theorem HdSt.inn {w wr : World} {b3 : Nat} {x : Lv} (h : HdSt w wr b3 x) (hd : HdT x.nx (x.l.map Tv.t)) : LIn wr x := h.own.inn (by have := hd.few; rw [List.length_map] at this; omega) hd.tin
theorem HdT.raw {w wr : World} {b3 : Nat} {x : Lv} (h : HdSt w wr b3 x) (hd : HdT x.nx (x.l.map Tv.t)) : LRaw wr x := by
  have h1 := h.inn hd
  exact ⟨Nat.le_trans h1.few (by decide), h1.rd, fun y hy => ⟨Nat.le_trans (h1.each y hy).1 (by decide), (h1.each y hy).2⟩⟩
set_option maxRecDepth 100000 in
set_option maxHeartbeats 8000000 in
theorem trlaw_handles (a0 : Option Addr) (n cap : Nat) (ds : List Int) (w : World) (hn : ds.length = n) (hmx : n ≤ maxLen) (hoc : octets ds) (hr : Rd w w.heap.size a0 (ds.map (Value.int .u8))) :
    Calls Try.prog 6 #[.slice a0 n cap] w fun e w' => e = .returned (.bool true) ∧ Below w.heap.size w w' := by
  have HN := Lib.hid hn
  have HX := Lib.hid (And.intro hoc hr)
  have HZ := Lib.hid (TBx.nil w)
  clear hoc hr hn
  go_enter Try.func6, Try.ntmps6
  go_wp2_with fail
  refine (awake18_any _).mono ?_
  rintro e w1 ⟨rfl, hb⟩
  have HT1 := Lib.hid (HZ.out.on hb)
  clear hb
  by_cases h80 : n ≤ 80
  rotate_left
  · go_wp2_with fail
    refine (awake18_any _).mono ?_
    rintro e wz ⟨rfl, hbz⟩
    have HZz := Lib.hid (bthen HT1.out.2 hbz)
    clear hbz
    go_wp2
    go_ret
    exact ⟨rfl, HZz.out⟩
  clear hmx
  go_wp2_with (first
    | ((with_reducible refine wpList_alloc_box _ (o := ⟨some 3, .alloc _, _, _, _, _⟩) rfl _ rfl (lgc lz) zero_lg ?_); intro w20 x20 B20 s20)
    | ((with_reducible refine wpList_store_var _ (o := ⟨none, .store _ (.tmp 3) _, _, _, _, _⟩) rfl 39 _ _ rfl w1.heap.size [.int .i64 0, .slice none 0 0] (lgc lz) (lg_size2 _ _ _ _) rfl (lg_one2 _ _ _ _) rfl rfl x20 ?_); go_loud (intro w2 x2 g2; have HS : Hid (HdSt w w2 w1.heap.size lz) := Lib.hid ⟨HT1.out.made B20 g2 x2, ⟨TOwn.nil _ _⟩, HT1.out.2.size⟩; clear x20 B20 s20 g2 x2; generalize w1.heap.size = b3 at *))
    | fail)
  clear HT1
  go_loopw [4, 5] (fun v4 v5 wr => ∃ (k : Nat) (la nx : Int) (l : List Tv) (A : Option Addr) (c : Nat), v5 = .int .i64 k ∧ k ≤ n ∧ v4 = .int .i64 la ∧ la < nx ∧ 0 ≤ nx ∧ nx ≤ k ∧ Hid (HdT nx (l.map Tv.t)) ∧ Hid (HdSt w wr b3 ⟨nx, l, A, c⟩)) (fun _ v5 _ => n - (intOf v5).toNat)
  case atStart => exact ⟨0, -1, 0, [], none, 0, rfl, by omega, rfl, by omega, by omega, by omega, Lib.hid HdT.nil, HS⟩
  case round =>
    clear HS
    obtain ⟨k, la, nx, l, A, c, rfl, hk, rfl, hla, hn0, hnk, HTa, HS⟩ := hrel
    by_cases hlt : k < n
    · have hkl : k < ds.length := by rw [HN.out]; exact hlt
      have HD := Lib.hid fun w' (hb : Below w.heap.size w w') => (HX.out.2.below hb).at (k := k) (u := .int .u8 (ds[k]'hkl)) (by rw [List.getElem?_map, List.getElem?_eq_getElem hkl]; rfl)
      have HO := Lib.hid (HX.out.1 _ (List.getElem_mem hkl))
      generalize ds[k]'hkl = di at *
      obtain ⟨d, rfl⟩ : ∃ d : Nat, di = (d : Int) := ⟨di.toNat, by have := HO.out; omega⟩
      clear hkl
      obtain ⟨ad, rfl, _, e0⟩ := HD.out wr HS.out.bx.2
      obtain ⟨c0, c1⟩ := lg_box HS.out.bx.head
      by_cases h3 : d % 3 = 0
      · have h3i : (d : Int) % 3 = 0 := by omega
        have HSP := Lib.hid fun w' (h : HdSt w w' b3 ⟨nx, l, A, c⟩) => (⟨lg_box h.bx.head, by
          obtain ⟨ad2, e, _, h⟩ := HD.out w' h.bx.2
          obtain rfl : ad = ad2 := by injection e
          exact h⟩ : (w'.cell? ⟨b3, 0, none⟩ = some (.int .i64 nx) ∧ w'.cell? ⟨b3, 1, none⟩ = some (.slice A l.length c)) ∧ w'.cell? (ad.add k) = some (.int .u8 (d : Nat)))
        have HSO := Lib.hid fun w' (hb : Below wr.heap.size wr w') => HSP.out w' (HS.out.on hb)
        obtain ⟨kk, hkk⟩ : ∃ kk, (if (gett (IntKind.i64.wrap (IntKind.u8.wrap ((d : Int) / 3))) (l.map Tv.t)).isSome then (0 : Int) else 9) = kk := ⟨_, rfl⟩
        have HDr : Hid (∀ w', Below wr.heap.size wr w' → Calls Try.prog 22 #[.agg #[.int .i64 nx, .slice A l.length c], .int .i64 (IntKind.i64.wrap (IntKind.u8.wrap ((d : Int) / 3)))] w' fun e w'' => ∃ l2 A2 c2, e = .returned (.tuple #[.agg #[.int .i64 nx, .slice A2 l2.length c2], .int .i64 kk]) ∧ l2.map Tv.t = dropT (IntKind.i64.wrap (IntKind.u8.wrap ((d : Int) / 3))) (l.map Tv.t) ∧ LOwn w'' w'.heap.size ⟨nx, l2, A2, c2⟩ ∧ Below w'.heap.size w' w'') := Lib.hid fun w' hb => by
          refine (drop_is (x := ⟨nx, l, A, c⟩) (id := IntKind.i64.wrap (IntKind.u8.wrap ((d : Int) / 3))) ((HS.out.on hb).inn HTa.out) HTa.out.rise hkk).mono ?_
          rintro e w'' ⟨⟨ny, l2, A2, c2⟩, rfl, hny, hmap, hown, hb2⟩
          obtain rfl : nx = ny := Eq.symm hny
          exact ⟨l2, A2, c2, rfl, hmap, hown, hb2⟩
        clear hkk
        have HS0 := Lib.hid (HSO.out wr.drew (Below.refl _ _).drew)
        go_wp2_with fail
        refine wp_region_heldT (fun w' => (w'.cell? ⟨b3, 0, none⟩ = some (.int .i64 nx) ∧ w'.cell? ⟨b3, 1, none⟩ = some (.slice A l.length c)) ∧ w'.cell? (ad.add k) = some (.int .u8 (d : Nat))) 13 (by kernel_rfl) (by kernel_rfl) ?_
        refine heldT_take (i := 0) (oi := ⟨some 33, .load _ _, _, _, _, _⟩) (v := ?va0) rfl (by kernel_rfl) (by decide) (by kernel_rfl) (by kernel_rfl) (fun _ _ _ h => h) (Or.inl ⟨by rfl, ?hya0⟩) HS0.out ?resta0
        case hya0 =>
          intro w hSw
          obtain ⟨⟨hSa, hSb⟩, hS1⟩ := hSw
          go_simp
          try with_reducible rfl
        try simp only [Act.put, List.setIfInBounds_toArray, List.set_cons_zero, List.set_cons_succ]
        refine heldT_take (i := 1) (oi := ⟨some 34, .move _, _, _, _, _⟩) (v := ?va1) rfl (by kernel_rfl) (by decide) (by kernel_rfl) (by kernel_rfl) (fun _ _ _ h => h) (Or.inl ⟨by rfl, ?hya1⟩) HS0.out ?resta1
        case hya1 =>
          intro w hSw
          obtain ⟨⟨hSa, hSb⟩, hS1⟩ := hSw
          go_simp
          try with_reducible rfl
        try simp only [Act.put, List.setIfInBounds_toArray, List.set_cons_zero, List.set_cons_succ]
        refine heldT_take (i := 2) (oi := ⟨some 35, .move _, _, _, _, _⟩) (v := ?va2) rfl (by kernel_rfl) (by decide) (by kernel_rfl) (by kernel_rfl) (fun _ _ _ h => h) (Or.inl ⟨by rfl, ?hya2⟩) HS0.out ?resta2
        case hya2 =>
          intro w hSw
          obtain ⟨⟨hSa, hSb⟩, hS1⟩ := hSw
          go_simp
          try with_reducible rfl
        try simp only [Act.put, List.setIfInBounds_toArray, List.set_cons_zero, List.set_cons_succ]
        refine heldT_take (i := 3) (oi := ⟨some 36, .indexAddr _ _ _, _, _, _, _⟩) (v := ?va3) rfl (by kernel_rfl) (by decide) (by kernel_rfl) (by kernel_rfl) (fun _ _ _ h => h) (Or.inl ⟨by rfl, ?hya3⟩) HS0.out ?resta3
        case hya3 =>
          intro w hSw
          obtain ⟨⟨hSa, hSb⟩, hS1⟩ := hSw
          go_simp
          try with_reducible rfl
        try simp only [Act.put, List.setIfInBounds_toArray, List.set_cons_zero, List.set_cons_succ]
        refine heldT_take (i := 4) (oi := ⟨some 37, .load _ _, _, _, _, _⟩) (v := ?va4) rfl (by kernel_rfl) (by decide) (by kernel_rfl) (by kernel_rfl) (fun _ _ _ h => h) (Or.inl ⟨by rfl, ?hya4⟩) HS0.out ?resta4
        case hya4 =>
          intro w hSw
          obtain ⟨⟨hSa, hSb⟩, hS1⟩ := hSw
          go_simp
          try with_reducible rfl
        try simp only [Act.put, List.setIfInBounds_toArray, List.set_cons_zero, List.set_cons_succ]
        refine heldT_take (i := 5) (oi := ⟨some 38, .binOp _ _ _ _ _, _, _, _, _⟩) (v := ?va5) rfl (by kernel_rfl) (by decide) (by kernel_rfl) (by kernel_rfl) (fun _ _ _ h => h) (Or.inl ⟨by rfl, ?hya5⟩) HS0.out ?resta5
        case hya5 =>
          intro w hSw
          obtain ⟨⟨hSa, hSb⟩, hS1⟩ := hSw
          go_simp
          try with_reducible rfl
        try simp only [Act.put, List.setIfInBounds_toArray, List.set_cons_zero, List.set_cons_succ]
        refine heldT_take (i := 6) (oi := ⟨some 39, .convert _ _ _, _, _, _, _⟩) (v := ?va6) rfl (by kernel_rfl) (by decide) (by kernel_rfl) (by kernel_rfl) (fun _ _ _ h => h) (Or.inl ⟨by rfl, ?hya6⟩) HS0.out ?resta6
        case hya6 =>
          intro w hSw
          obtain ⟨⟨hSa, hSb⟩, hS1⟩ := hSw
          go_simp
          try with_reducible rfl
        try simp only [Act.put, List.setIfInBounds_toArray, List.set_cons_zero, List.set_cons_succ]
        refine heldT_two (i := 7) (j := 11) (oi := ⟨some 40, .call _, _, _, _, _⟩) (oj := ⟨some 6, .alloc _, _, _, _, _⟩) rfl rfl (by kernel_rfl) (by decide) (by decide) (fun K hK => ?callFirst) (fun K hK => ?allocFirst)
        case callFirst =>
          go_simp
          refine (HDr.out wr.drew (Below.refl _ _).drew).mono ?_
          rintro e w7 ⟨l2, A2, c2, rfl, hmap, hown, hb⟩
          have HTd := Lib.hid (show HdT nx (l2.map Tv.t) by rw [hmap]; exact HTa.out.drop _)
          have H7 := Lib.hid (show HdSt w w7 b3 ⟨nx, l, A, c⟩ ∧ LOwn w7 w.heap.size ⟨nx, l2, A2, c2⟩ from ⟨HS.out.on (bthen (Below.refl _ _).drew hb), hown.more (show w.heap.size ≤ wr.heap.size from HS.out.bx.2.size)⟩)
          have HS7 := Lib.hid (HSP.out w7 H7.out.1)
          clear hmap hown hb
          go_wp2_with fail
          refine hK.out _ _ HS7.out ?_
          clear hK K
          try simp only [Act.put, List.setIfInBounds_toArray, List.set_cons_zero, List.set_cons_succ]
          refine heldT_take (i := 8) (oi := ⟨some 32, .move _, _, _, _, _⟩) (v := ?vb8) rfl (by kernel_rfl) (by decide) (by kernel_rfl) (by kernel_rfl) (fun _ _ _ h => h) (Or.inl ⟨by rfl, ?hyb8⟩) HS7.out ?restb8
          case hyb8 =>
            intro w hSw
            obtain ⟨⟨hSa, hSb⟩, hS1⟩ := hSw
            go_simp
            try with_reducible rfl
          try simp only [Act.put, List.setIfInBounds_toArray, List.set_cons_zero, List.set_cons_succ]
          refine heldT_take (i := 9) (oi := ⟨some 41, .extract _ _, _, _, _, _⟩) (v := ?vb9) rfl (by kernel_rfl) (by decide) (by kernel_rfl) (by kernel_rfl) (fun _ _ _ h => h) (Or.inl ⟨by rfl, ?hyb9⟩) HS7.out ?restb9
          case hyb9 =>
            intro w hSw
            obtain ⟨⟨hSa, hSb⟩, hS1⟩ := hSw
            go_simp
            try with_reducible rfl
          try simp only [Act.put, List.setIfInBounds_toArray, List.set_cons_zero, List.set_cons_succ]
          refine heldT_take (i := 10) (oi := ⟨some 42, .extract _ _, _, _, _, _⟩) (v := ?vb10) rfl (by kernel_rfl) (by decide) (by kernel_rfl) (by kernel_rfl) (fun _ _ _ h => h) (Or.inl ⟨by rfl, ?hyb10⟩) HS7.out ?restb10
          case hyb10 =>
            intro w hSw
            obtain ⟨⟨hSa, hSb⟩, hS1⟩ := hSw
            go_simp
            try with_reducible rfl
          try simp only [Act.put, List.setIfInBounds_toArray, List.set_cons_zero, List.set_cons_succ]
          refine heldT_one (i := 11) (o := ⟨some 6, .alloc _, _, _, _, _⟩) rfl (by kernel_rfl) (by decide) (fun K hK => ?_)
          refine step_alloc_var _ rfl _ rfl (lgc lz) zero_lg ?_
          intro w75 x75 B75
          have H75 := Lib.hid (show HdSt w w75 b3 ⟨nx, l, A, c⟩ ∧ LOwn w75 w.heap.size ⟨nx, l2, A2, c2⟩ ∧ Box w75 w7.heap.size 39 (lgc lz) from ⟨H7.out.1.on B75, H7.out.2.on B75, x75⟩)
          have HS75 := Lib.hid (HSP.out w75 H75.out.1)
          have b6N := Lib.hid (show b3 ≠ w7.heap.size ∧ w.heap.size ≤ w7.heap.size from ⟨Nat.ne_of_lt H7.out.1.bx.head.lt, H7.out.1.bx.2.size⟩)
          generalize w7.heap.size = b6 at *
          clear x75 B75
          refine hK.out _ _ HS75.out ?_
          clear hK K
          try simp only [Act.put, List.setIfInBounds_toArray, List.set_cons_zero, List.set_cons_succ]
          refine heldT_one (i := 12) (o := ⟨none, .store _ (.tmp 6) _, _, _, _, _⟩) rfl (by kernel_rfl) (by decide) (fun K hK => ?_)
          refine step_store_box _ rfl 39 _ _ rfl b6 [.int .i64 nx, .slice A2 l2.length c2] (lgc lz) (lg_size2 _ _ _ _) rfl (lg_one2 _ _ _ _) rfl rfl H75.out.2.2 ?_
          intro w8 x8 g8
          have HS8 := Lib.hid (show HdSt w w8 b3 ⟨nx, l, A, c⟩ ∧ LOwn w8 w.heap.size ⟨nx, l2, A2, c2⟩ ∧ Box w8 b6 39 (lgc ⟨nx, l2, A2, c2⟩) from ⟨H75.out.1.beside g8 b6N.out.1 b6N.out.2 H75.out.2.2, H75.out.2.1.box H75.out.2.2 lg_ne1 lg_ne2 g8, x8⟩)
          have HSx := Lib.hid (HSP.out w8 HS8.out.1)
          clear x8 g8
          refine hK.out _ _ HSx.out ?_
          clear hK K
          try simp only [Act.put]
          refine heldT_done (by kernel_rfl) ?_
          clear HS0 HSx
          simp only [List.drop_succ_cons, List.drop_zero]
          have HTa := HTd
          clear HTd
          obtain ⟨e0, e1⟩ := lg_box HS8.out.2.2
          go_wp2_with (first
            | ((with_reducible refine wpList_store_var _ (o := ⟨none, .store _ (.tmp 3) _, _, _, _, _⟩) rfl 39 _ _ rfl b3 [.int .i64 nx, .slice A2 l2.length c2] (lgc ⟨nx, l, A, c⟩) (lg_size2 _ _ _ _) rfl (lg_one2 _ _ _ _) rfl rfl HS8.out.1.bx.head ?_); go_loud (intro w9 x9 g9; have HS9 := Lib.hid (show HdSt w w9 b3 ⟨nx, l2, A2, c2⟩ from HS8.out.1.put HS8.out.2.1 x9 g9); obtain ⟨c0, c1⟩ := lg_box HS9.out.bx.head; clear x9 g9 HS8 e0 e1))
            | fail)
          have HN2 := Lib.hid (show 0 ≤ nx ∧ nx ≤ 1099511627776 by omega)
          have hnle : ¬ nx ≤ la := by omega
          by_cases hfew : (l2.map Tv.t).length < 16
          · refine (begin_yes (x := ⟨nx, l2, A2, c2⟩) (now := (k : Int)) (HS9.out.inn HTa.out) HN2.out (by have h := hfew; simpa using h)).mono ?_
            rintro e w4 ⟨⟨ny, l5, A5, c5⟩, rfl, hny, hmap, hown, hb⟩
            obtain rfl : ny = nx + 1 := hny
            have HTb := Lib.hid (show HdT (nx + 1) (l5.map Tv.t) by have hmap : l5.map Tv.t = l2.map Tv.t ++ [⟨nx, (k : Int), []⟩] := hmap; rw [hmap]; exact HTa.out.more HN2.out.1 (by simpa using hfew))
            have hf2 : l5.length ≤ 16 := by have := HTb.out.few; rwa [List.length_map] at this
            have HR2 : Hid (RiL (nx + 1) l5) := Lib.hid (HTb.out.ri (by have := HN2.out; omega) (by have := HN2.out; omega))
            have HS4 := Lib.hid (And.intro (HS9.out.on hb) (hown.more HS9.out.bx.2.size))
            clear hown hb hmap hfew c0 c1
            go_wp2_with (first
              | ((with_reducible refine wpList_alloc_box _ (o := ⟨some 8, .alloc _, _, _, _, _⟩) rfl _ rfl (lgc lz) zero_lg ?_); intro w50 x50 B50 s50)
              | ((with_reducible refine wpList_store_var _ (o := ⟨none, .store _ (.tmp 8) _, _, _, _, _⟩) rfl 39 _ _ rfl w4.heap.size (lgc ⟨(nx + 1), l5, A5, c5⟩) (lgc lz) (lg_size _) rfl (lgc_one _) rfl rfl x50 ?_); go_loud (intro w5 x5 g5; have K5 := below_stored B50 g5 B50.size (Nat.le_refl _); have HS5 := Lib.hid (And.intro (HS4.out.1.on K5) (HS4.out.2.on K5)); obtain ⟨e0, e1⟩ := lg_box x5; clear x50 B50 s50 g5 x5 K5 HS4; generalize w4.heap.size = b8 at *))
              | ((with_reducible refine wpList_store_var _ (o := ⟨none, .store _ (.tmp 3) _, _, _, _, _⟩) rfl 39 _ _ rfl b3 [.int .i64 (nx + 1), .slice A5 l5.length c5] (lgc ⟨nx, l2, A2, c2⟩) (lg_size2 _ _ _ _) rfl (lg_one2 _ _ _ _) rfl rfl HS5.out.1.bx.head ?_); go_loud (intro w6 x6 g6; have HS6 := Lib.hid (show HdSt w w6 b3 ⟨(nx + 1), l5, A5, c5⟩ from HS5.out.1.put HS5.out.2 x6 g6); obtain ⟨c0, c1⟩ := lg_box HS6.out.bx.head; clear x6 g6 HS5 e0 e1))
              | fail)
            refine (rrightall_is ⟨(nx + 1), l5, A5, c5⟩ w6 (HdT.raw HS6.out HTb.out)).mono ?_
            rintro e w7 ⟨rfl, hb⟩
            rw [tr_yes HR2.out]
            have HS7 := Lib.hid (HS6.out.on hb)
            clear hb c0 c1
            go_wp2
            go_roundw
            case rel => exact ⟨k + 1, nx, (nx + 1), l5, A5, c5, by go_num, by omega, rfl, by omega, by omega, by omega, HTb, HS7⟩
            case measure => first | (simp [intOf]; done) | (simp [intOf]; omega)
          · refine (begin_no (x := ⟨nx, l2, A2, c2⟩) (now := (k : Int)) (HS9.out.inn HTa.out) HN2.out (by have h := hfew; simp at h; simpa using h)).mono ?_
            rintro e w4 ⟨⟨ny, l5, A5, c5⟩, rfl, hny, hmap, hown, hb⟩
            obtain rfl : nx = ny := Eq.symm hny
            have HTb := Lib.hid (show HdT nx (l5.map Tv.t) by have hmap : l5.map Tv.t = l2.map Tv.t := hmap; rw [hmap]; exact HTa.out)
            have hf2 : l5.length ≤ 16 := by have := HTb.out.few; rwa [List.length_map] at this
            have HR2 : Hid (RiL nx l5) := Lib.hid (HTb.out.ri (by have := HN2.out; omega) (by have := HN2.out; omega))
            have HS4 := Lib.hid (And.intro (HS9.out.on hb) (hown.more HS9.out.bx.2.size))
            clear hown hb hmap hfew c0 c1
            go_wp2_with (first
              | ((with_reducible refine wpList_alloc_box _ (o := ⟨some 8, .alloc _, _, _, _, _⟩) rfl _ rfl (lgc lz) zero_lg ?_); intro w50 x50 B50 s50)
              | ((with_reducible refine wpList_store_var _ (o := ⟨none, .store _ (.tmp 8) _, _, _, _, _⟩) rfl 39 _ _ rfl w4.heap.size (lgc ⟨nx, l5, A5, c5⟩) (lgc lz) (lg_size _) rfl (lgc_one _) rfl rfl x50 ?_); go_loud (intro w5 x5 g5; have K5 := below_stored B50 g5 B50.size (Nat.le_refl _); have HS5 := Lib.hid (And.intro (HS4.out.1.on K5) (HS4.out.2.on K5)); obtain ⟨e0, e1⟩ := lg_box x5; clear x50 B50 s50 g5 x5 K5 HS4; generalize w4.heap.size = b8 at *))
              | ((with_reducible refine wpList_store_var _ (o := ⟨none, .store _ (.tmp 3) _, _, _, _, _⟩) rfl 39 _ _ rfl b3 [.int .i64 nx, .slice A5 l5.length c5] (lgc ⟨nx, l2, A2, c2⟩) (lg_size2 _ _ _ _) rfl (lg_one2 _ _ _ _) rfl rfl HS5.out.1.bx.head ?_); go_loud (intro w6 x6 g6; have HS6 := Lib.hid (show HdSt w w6 b3 ⟨nx, l5, A5, c5⟩ from HS5.out.1.put HS5.out.2 x6 g6); obtain ⟨c0, c1⟩ := lg_box HS6.out.bx.head; clear x6 g6 HS5 e0 e1))
              | fail)
            refine (rrightall_is ⟨nx, l5, A5, c5⟩ w6 (HdT.raw HS6.out HTb.out)).mono ?_
            rintro e w7 ⟨rfl, hb⟩
            rw [tr_yes HR2.out]
            have HS7 := Lib.hid (HS6.out.on hb)
            clear hb c0 c1
            go_wp2
            go_roundw
            case rel => exact ⟨k + 1, la, nx, l5, A5, c5, by go_num, by omega, rfl, by omega, by omega, by omega, HTb, HS7⟩
            case measure => first | (simp [intOf]; done) | (simp [intOf]; omega)
        case allocFirst =>
          refine step_alloc_var _ rfl _ rfl (lgc lz) zero_lg ?_
          intro w7 x7 B7
          have H7 := Lib.hid (show HdSt w w7 b3 ⟨nx, l, A, c⟩ ∧ Box w7 wr.heap.size 39 (lgc lz) ∧ Below wr.heap.size wr w7 from ⟨HS.out.on (bthen (Below.refl _ _).drew B7), x7, bthen (Below.refl _ _).drew B7⟩)
          have HS7 := Lib.hid (HSP.out w7 H7.out.1)
          have b6N := Lib.hid (show b3 ≠ wr.heap.size ∧ w.heap.size ≤ wr.heap.size from ⟨Nat.ne_of_lt HS.out.bx.head.lt, HS.out.bx.2.size⟩)
          clear x7 B7
          refine hK.out _ _ HS7.out ?_
          clear hK K
          try simp only [Act.put, List.setIfInBounds_toArray, List.set_cons_zero, List.set_cons_succ]
          refine heldT_one (i := 7) (o := ⟨some 40, .call _, _, _, _, _⟩) rfl (by kernel_rfl) (by decide) (fun K hK => ?_)
          go_simp
          refine (HDr.out w7 H7.out.2.2).mono ?_
          rintro e w75 ⟨l2, A2, c2, rfl, hmap, hown, hb⟩
          have HTd := Lib.hid (show HdT nx (l2.map Tv.t) by rw [hmap]; exact HTa.out.drop _)
          have H75 := Lib.hid (show HdSt w w75 b3 ⟨nx, l, A, c⟩ ∧ LOwn w75 w.heap.size ⟨nx, l2, A2, c2⟩ ∧ Box w75 wr.heap.size 39 (lgc lz) from ⟨H7.out.1.on hb, hown.more H7.out.1.bx.2.size, H7.out.2.1.on hb⟩)
          have HS75 := Lib.hid (HSP.out w75 H75.out.1)
          clear hmap hown hb
          go_wp2_with fail
          refine hK.out _ _ HS75.out ?_
          clear hK K
          try simp only [Act.put, List.setIfInBounds_toArray, List.set_cons_zero, List.set_cons_succ]
          refine heldT_take (i := 8) (oi := ⟨some 32, .move _, _, _, _, _⟩) (v := ?vc8) rfl (by kernel_rfl) (by decide) (by kernel_rfl) (by kernel_rfl) (fun _ _ _ h => h) (Or.inl ⟨by rfl, ?hyc8⟩) HS75.out ?restc8
          case hyc8 =>
            intro w hSw
            obtain ⟨⟨hSa, hSb⟩, hS1⟩ := hSw
            go_simp
            try with_reducible rfl
          try simp only [Act.put, List.setIfInBounds_toArray, List.set_cons_zero, List.set_cons_succ]
          refine heldT_take (i := 9) (oi := ⟨some 41, .extract _ _, _, _, _, _⟩) (v := ?vc9) rfl (by kernel_rfl) (by decide) (by kernel_rfl) (by kernel_rfl) (fun _ _ _ h => h) (Or.inl ⟨by rfl, ?hyc9⟩) HS75.out ?restc9
          case hyc9 =>
            intro w hSw
            obtain ⟨⟨hSa, hSb⟩, hS1⟩ := hSw
            go_simp
            try with_reducible rfl
          try simp only [Act.put, List.setIfInBounds_toArray, List.set_cons_zero, List.set_cons_succ]
          refine heldT_take (i := 10) (oi := ⟨some 42, .extract _ _, _, _, _, _⟩) (v := ?vc10) rfl (by kernel_rfl) (by decide) (by kernel_rfl) (by kernel_rfl) (fun _ _ _ h => h) (Or.inl ⟨by rfl, ?hyc10⟩) HS75.out ?restc10
          case hyc10 =>
            intro w hSw
            obtain ⟨⟨hSa, hSb⟩, hS1⟩ := hSw
            go_simp
            try with_reducible rfl
          try simp only [Act.put, List.setIfInBounds_toArray, List.set_cons_zero, List.set_cons_succ]
          have b6N : Hid (b3 ≠ wr.heap.size ∧ w.heap.size ≤ wr.heap.size) := b6N
          refine heldT_one (i := 12) (o := ⟨none, .store _ (.tmp 6) _, _, _, _, _⟩) rfl (by kernel_rfl) (by decide) (fun K hK => ?_)
          refine step_store_box _ rfl 39 _ _ rfl wr.heap.size [.int .i64 nx, .slice A2 l2.length c2] (lgc lz) (lg_size2 _ _ _ _) rfl (lg_one2 _ _ _ _) rfl rfl H75.out.2.2 ?_
          intro w8 x8 g8
          have HS8 := Lib.hid (show HdSt w w8 b3 ⟨nx, l, A, c⟩ ∧ LOwn w8 w.heap.size ⟨nx, l2, A2, c2⟩ ∧ Box w8 wr.heap.size 39 (lgc ⟨nx, l2, A2, c2⟩) from ⟨H75.out.1.beside g8 b6N.out.1 b6N.out.2 H75.out.2.2, H75.out.2.1.box H75.out.2.2 lg_ne1 lg_ne2 g8, x8⟩)
          have HSx := Lib.hid (HSP.out w8 HS8.out.1)
          clear x8 g8
          refine hK.out _ _ HSx.out ?_
          clear hK K
          try simp only [Act.put]
          refine heldT_done (by kernel_rfl) ?_
          clear HS0 HSx
          simp only [List.drop_succ_cons, List.drop_zero]
          have HTa := HTd
          clear HTd
          obtain ⟨e0, e1⟩ := lg_box HS8.out.2.2
          go_wp2_with (first
            | ((with_reducible refine wpList_store_var _ (o := ⟨none, .store _ (.tmp 3) _, _, _, _, _⟩) rfl 39 _ _ rfl b3 [.int .i64 nx, .slice A2 l2.length c2] (lgc ⟨nx, l, A, c⟩) (lg_size2 _ _ _ _) rfl (lg_one2 _ _ _ _) rfl rfl HS8.out.1.bx.head ?_); go_loud (intro w9 x9 g9; have HS9 := Lib.hid (show HdSt w w9 b3 ⟨nx, l2, A2, c2⟩ from HS8.out.1.put HS8.out.2.1 x9 g9); obtain ⟨c0, c1⟩ := lg_box HS9.out.bx.head; clear x9 g9 HS8 e0 e1))
            | fail)
          have HN2 := Lib.hid (show 0 ≤ nx ∧ nx ≤ 1099511627776 by omega)
          have hnle : ¬ nx ≤ la := by omega
          by_cases hfew : (l2.map Tv.t).length < 16
          · refine (begin_yes (x := ⟨nx, l2, A2, c2⟩) (now := (k : Int)) (HS9.out.inn HTa.out) HN2.out (by have h := hfew; simpa using h)).mono ?_
            rintro e w4 ⟨⟨ny, l5, A5, c5⟩, rfl, hny, hmap, hown, hb⟩
            obtain rfl : ny = nx + 1 := hny
            have HTb := Lib.hid (show HdT (nx + 1) (l5.map Tv.t) by have hmap : l5.map Tv.t = l2.map Tv.t ++ [⟨nx, (k : Int), []⟩] := hmap; rw [hmap]; exact HTa.out.more HN2.out.1 (by simpa using hfew))
            have hf2 : l5.length ≤ 16 := by have := HTb.out.few; rwa [List.length_map] at this
            have HR2 : Hid (RiL (nx + 1) l5) := Lib.hid (HTb.out.ri (by have := HN2.out; omega) (by have := HN2.out; omega))
            have HS4 := Lib.hid (And.intro (HS9.out.on hb) (hown.more HS9.out.bx.2.size))
            clear hown hb hmap hfew c0 c1
            go_wp2_with (first
              | ((with_reducible refine wpList_alloc_box _ (o := ⟨some 8, .alloc _, _, _, _, _⟩) rfl _ rfl (lgc lz) zero_lg ?_); intro w50 x50 B50 s50)
              | ((with_reducible refine wpList_store_var _ (o := ⟨none, .store _ (.tmp 8) _, _, _, _, _⟩) rfl 39 _ _ rfl w4.heap.size (lgc ⟨(nx + 1), l5, A5, c5⟩) (lgc lz) (lg_size _) rfl (lgc_one _) rfl rfl x50 ?_); go_loud (intro w5 x5 g5; have K5 := below_stored B50 g5 B50.size (Nat.le_refl _); have HS5 := Lib.hid (And.intro (HS4.out.1.on K5) (HS4.out.2.on K5)); obtain ⟨e0, e1⟩ := lg_box x5; clear x50 B50 s50 g5 x5 K5 HS4; generalize w4.heap.size = b8 at *))
              | ((with_reducible refine wpList_store_var _ (o := ⟨none, .store _ (.tmp 3) _, _, _, _, _⟩) rfl 39 _ _ rfl b3 [.int .i64 (nx + 1), .slice A5 l5.length c5] (lgc ⟨nx, l2, A2, c2⟩) (lg_size2 _ _ _ _) rfl (lg_one2 _ _ _ _) rfl rfl HS5.out.1.bx.head ?_); go_loud (intro w6 x6 g6; have HS6 := Lib.hid (show HdSt w w6 b3 ⟨(nx + 1), l5, A5, c5⟩ from HS5.out.1.put HS5.out.2 x6 g6); obtain ⟨c0, c1⟩ := lg_box HS6.out.bx.head; clear x6 g6 HS5 e0 e1))
              | fail)
            refine (rrightall_is ⟨(nx + 1), l5, A5, c5⟩ w6 (HdT.raw HS6.out HTb.out)).mono ?_
            rintro e w7 ⟨rfl, hb⟩
            rw [tr_yes HR2.out]
            have HS7 := Lib.hid (HS6.out.on hb)
            clear hb c0 c1
            go_wp2
            go_roundw
            case rel => exact ⟨k + 1, nx, (nx + 1), l5, A5, c5, by go_num, by omega, rfl, by omega, by omega, by omega, HTb, HS7⟩
            case measure => first | (simp [intOf]; done) | (simp [intOf]; omega)
          · refine (begin_no (x := ⟨nx, l2, A2, c2⟩) (now := (k : Int)) (HS9.out.inn HTa.out) HN2.out (by have h := hfew; simp at h; simpa using h)).mono ?_
            rintro e w4 ⟨⟨ny, l5, A5, c5⟩, rfl, hny, hmap, hown, hb⟩
            obtain rfl : nx = ny := Eq.symm hny
            have HTb := Lib.hid (show HdT nx (l5.map Tv.t) by have hmap : l5.map Tv.t = l2.map Tv.t := hmap; rw [hmap]; exact HTa.out)
            have hf2 : l5.length ≤ 16 := by have := HTb.out.few; rwa [List.length_map] at this
            have HR2 : Hid (RiL nx l5) := Lib.hid (HTb.out.ri (by have := HN2.out; omega) (by have := HN2.out; omega))
            have HS4 := Lib.hid (And.intro (HS9.out.on hb) (hown.more HS9.out.bx.2.size))
            clear hown hb hmap hfew c0 c1
            go_wp2_with (first
              | ((with_reducible refine wpList_alloc_box _ (o := ⟨some 8, .alloc _, _, _, _, _⟩) rfl _ rfl (lgc lz) zero_lg ?_); intro w50 x50 B50 s50)
              | ((with_reducible refine wpList_store_var _ (o := ⟨none, .store _ (.tmp 8) _, _, _, _, _⟩) rfl 39 _ _ rfl w4.heap.size (lgc ⟨nx, l5, A5, c5⟩) (lgc lz) (lg_size _) rfl (lgc_one _) rfl rfl x50 ?_); go_loud (intro w5 x5 g5; have K5 := below_stored B50 g5 B50.size (Nat.le_refl _); have HS5 := Lib.hid (And.intro (HS4.out.1.on K5) (HS4.out.2.on K5)); obtain ⟨e0, e1⟩ := lg_box x5; clear x50 B50 s50 g5 x5 K5 HS4; generalize w4.heap.size = b8 at *))
              | ((with_reducible refine wpList_store_var _ (o := ⟨none, .store _ (.tmp 3) _, _, _, _, _⟩) rfl 39 _ _ rfl b3 [.int .i64 nx, .slice A5 l5.length c5] (lgc ⟨nx, l2, A2, c2⟩) (lg_size2 _ _ _ _) rfl (lg_one2 _ _ _ _) rfl rfl HS5.out.1.bx.head ?_); go_loud (intro w6 x6 g6; have HS6 := Lib.hid (show HdSt w w6 b3 ⟨nx, l5, A5, c5⟩ from HS5.out.1.put HS5.out.2 x6 g6); obtain ⟨c0, c1⟩ := lg_box HS6.out.bx.head; clear x6 g6 HS5 e0 e1))
              | fail)
            refine (rrightall_is ⟨nx, l5, A5, c5⟩ w6 (HdT.raw HS6.out HTb.out)).mono ?_
            rintro e w7 ⟨rfl, hb⟩
            rw [tr_yes HR2.out]
            have HS7 := Lib.hid (HS6.out.on hb)
            clear hb c0 c1
            go_wp2
            go_roundw
            case rel => exact ⟨k + 1, la, nx, l5, A5, c5, by go_num, by omega, rfl, by omega, by omega, by omega, HTb, HS7⟩
            case measure => first | (simp [intOf]; done) | (simp [intOf]; omega)
      · have h3i : ¬ ((d : Int) % 3 = 0) := by omega
        have HN2 := Lib.hid (show 0 ≤ nx ∧ nx ≤ 1099511627776 by omega)
        have hnle : ¬ nx ≤ la := by omega
        go_wp2_with fail
        by_cases hfew : (l.map Tv.t).length < 16
        · refine (begin_yes (x := ⟨nx, l, A, c⟩) (now := (k : Int)) (HS.out.inn HTa.out) HN2.out (by have h := hfew; simpa using h)).mono ?_
          rintro e w4 ⟨⟨ny, l2, A2, c2⟩, rfl, hny, hmap, hown, hb⟩
          obtain rfl : ny = nx + 1 := hny
          have HTb := Lib.hid (show HdT (nx + 1) (l2.map Tv.t) by have hmap : l2.map Tv.t = l.map Tv.t ++ [⟨nx, (k : Int), []⟩] := hmap; rw [hmap]; exact HTa.out.more HN2.out.1 (by simpa using hfew))
          have hf2 : l2.length ≤ 16 := by have := HTb.out.few; rwa [List.length_map] at this
          have HR2 : Hid (RiL (nx + 1) l2) := Lib.hid (HTb.out.ri (by have := HN2.out; omega) (by have := HN2.out; omega))
          have HS4 := Lib.hid (And.intro (HS.out.on hb) (hown.more HS.out.bx.2.size))
          clear hown hb hmap hfew c0 c1
          go_wp2_with (first
            | ((with_reducible refine wpList_alloc_box _ (o := ⟨some 8, .alloc _, _, _, _, _⟩) rfl _ rfl (lgc lz) zero_lg ?_); intro w50 x50 B50 s50)
            | ((with_reducible refine wpList_store_var _ (o := ⟨none, .store _ (.tmp 8) _, _, _, _, _⟩) rfl 39 _ _ rfl w4.heap.size (lgc ⟨(nx + 1), l2, A2, c2⟩) (lgc lz) (lg_size _) rfl (lgc_one _) rfl rfl x50 ?_); go_loud (intro w5 x5 g5; have K5 := below_stored B50 g5 B50.size (Nat.le_refl _); have HS5 := Lib.hid (And.intro (HS4.out.1.on K5) (HS4.out.2.on K5)); obtain ⟨e0, e1⟩ := lg_box x5; clear x50 B50 s50 g5 x5 K5 HS4; generalize w4.heap.size = b8 at *))
            | ((with_reducible refine wpList_store_var _ (o := ⟨none, .store _ (.tmp 3) _, _, _, _, _⟩) rfl 39 _ _ rfl b3 [.int .i64 (nx + 1), .slice A2 l2.length c2] (lgc ⟨nx, l, A, c⟩) (lg_size2 _ _ _ _) rfl (lg_one2 _ _ _ _) rfl rfl HS5.out.1.bx.head ?_); go_loud (intro w6 x6 g6; have HS6 := Lib.hid (show HdSt w w6 b3 ⟨(nx + 1), l2, A2, c2⟩ from HS5.out.1.put HS5.out.2 x6 g6); obtain ⟨c0, c1⟩ := lg_box HS6.out.bx.head; clear x6 g6 HS5 e0 e1))
            | fail)
          refine (rrightall_is ⟨(nx + 1), l2, A2, c2⟩ w6 (HdT.raw HS6.out HTb.out)).mono ?_
          rintro e w7 ⟨rfl, hb⟩
          rw [tr_yes HR2.out]
          have HS7 := Lib.hid (HS6.out.on hb)
          clear hb c0 c1
          go_wp2
          go_roundw
          case rel => exact ⟨k + 1, nx, (nx + 1), l2, A2, c2, by go_num, by omega, rfl, by omega, by omega, by omega, HTb, HS7⟩
          case measure => first | (simp [intOf]; done) | (simp [intOf]; omega)
        · refine (begin_no (x := ⟨nx, l, A, c⟩) (now := (k : Int)) (HS.out.inn HTa.out) HN2.out (by have h := hfew; simp at h; simpa using h)).mono ?_
          rintro e w4 ⟨⟨ny, l2, A2, c2⟩, rfl, hny, hmap, hown, hb⟩
          obtain rfl : nx = ny := Eq.symm hny
          have HTb := Lib.hid (show HdT nx (l2.map Tv.t) by have hmap : l2.map Tv.t = l.map Tv.t := hmap; rw [hmap]; exact HTa.out)
          have hf2 : l2.length ≤ 16 := by have := HTb.out.few; rwa [List.length_map] at this
          have HR2 : Hid (RiL nx l2) := Lib.hid (HTb.out.ri (by have := HN2.out; omega) (by have := HN2.out; omega))
          have HS4 := Lib.hid (And.intro (HS.out.on hb) (hown.more HS.out.bx.2.size))
          clear hown hb hmap hfew c0 c1
          go_wp2_with (first
            | ((with_reducible refine wpList_alloc_box _ (o := ⟨some 8, .alloc _, _, _, _, _⟩) rfl _ rfl (lgc lz) zero_lg ?_); intro w50 x50 B50 s50)
            | ((with_reducible refine wpList_store_var _ (o := ⟨none, .store _ (.tmp 8) _, _, _, _, _⟩) rfl 39 _ _ rfl w4.heap.size (lgc ⟨nx, l2, A2, c2⟩) (lgc lz) (lg_size _) rfl (lgc_one _) rfl rfl x50 ?_); go_loud (intro w5 x5 g5; have K5 := below_stored B50 g5 B50.size (Nat.le_refl _); have HS5 := Lib.hid (And.intro (HS4.out.1.on K5) (HS4.out.2.on K5)); obtain ⟨e0, e1⟩ := lg_box x5; clear x50 B50 s50 g5 x5 K5 HS4; generalize w4.heap.size = b8 at *))
            | ((with_reducible refine wpList_store_var _ (o := ⟨none, .store _ (.tmp 3) _, _, _, _, _⟩) rfl 39 _ _ rfl b3 [.int .i64 nx, .slice A2 l2.length c2] (lgc ⟨nx, l, A, c⟩) (lg_size2 _ _ _ _) rfl (lg_one2 _ _ _ _) rfl rfl HS5.out.1.bx.head ?_); go_loud (intro w6 x6 g6; have HS6 := Lib.hid (show HdSt w w6 b3 ⟨nx, l2, A2, c2⟩ from HS5.out.1.put HS5.out.2 x6 g6); obtain ⟨c0, c1⟩ := lg_box HS6.out.bx.head; clear x6 g6 HS5 e0 e1))
            | fail)
          refine (rrightall_is ⟨nx, l2, A2, c2⟩ w6 (HdT.raw HS6.out HTb.out)).mono ?_
          rintro e w7 ⟨rfl, hb⟩
          rw [tr_yes HR2.out]
          have HS7 := Lib.hid (HS6.out.on hb)
          clear hb c0 c1
          go_wp2
          go_roundw
          case rel => exact ⟨k + 1, la, nx, l2, A2, c2, by go_num, by omega, rfl, by omega, by omega, by omega, HTb, HS7⟩
          case measure => first | (simp [intOf]; done) | (simp [intOf]; omega)
    · obtain rfl : k = n := by omega
      have HE := Lib.hid HS.out.bx.2
      go_wp2
      go_ret
      exact ⟨rfl, HE.out⟩
end Go.Proofs.Ytakpeboicmgnpaa

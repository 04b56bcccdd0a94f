/-
  Layer 11's laws: the law One.
-/
import Derived.Test.YtnpnnejopibjcaaPoZ
namespace Go.Proofs.Ytnpnnejopibjcaa
open Go.RowKit Geom Leaf Pol Zone
open Go.ChangeShapes Go.WideShapes
set_option linter.unusedVariables false

/-- acts as an argument: a kind, a zone -/
def pac : List (Nat × Nat) → List Value
  | [] => []
  | x :: M => .int .u8 x.1 :: .int .u8 x.2 :: pac M
theorem pac_get : ∀ {M : List (Nat × Nat)} {k : Nat} {x : Nat × Nat}, M[k]? = some x → (pac M)[k * 2]? = some (.int .u8 x.1) ∧ (pac M)[k * 2 + 1]? = some (.int .u8 x.2)
  | [], k, x, h => by simp at h
  | y :: M, 0, x, h => by obtain rfl : y = x := by simpa using h
                          exact ⟨rfl, rfl⟩
  | y :: M, k + 1, x, h => by
    obtain ⟨h1, h2⟩ := pac_get (M := M) (k := k) (by simpa using h)
    rw [show (k + 1) * 2 + 1 = k * 2 + 1 + 2 by omega, show (k + 1) * 2 = k * 2 + 2 by omega]
    exact ⟨by simpa [pac] using h1, by simpa [pac] using h2⟩
theorem Rd.pact {w : World} {B k : Nat} {A : Option Addr} {M : List (Nat × Nat)} {x : Nat × Nat} (h : Rd w B A (pac M)) (hx : M[k]? = some x) :
    ∃ ad, A = some ad ∧ ad.block < B ∧ w.cell? (ad.add (k * 2)) = some (.int .u8 x.1) ∧ w.cell? ⟨(ad.add (k * 2)).block, (ad.add (k * 2)).off + 1, none⟩ = some (.int .u8 x.2) := by
  obtain ⟨a0, a1⟩ := pac_get hx
  obtain ⟨ad, rfl, hb, hc⟩ := h.at a0
  have e1 : (⟨(ad.add (k * 2)).block, (ad.add (k * 2)).off + 1, none⟩ : Addr) = (ad.add (k * 2)).add 1 := by simp [Addr.add]
  exact ⟨ad, rfl, hb, hc, by rw [e1, addr_add_add]; exact h.tail_at a1⟩
theorem pwf_u8 {x : Int} (h : (Lit.int .u8 x).wf = true) : 0 ≤ x ∧ x ≤ 255 := by
  simpa [Lit.wf, IntKind.min, IntKind.max, IntKind.signed, IntKind.bits] using h
theorem rows_pacts {w : World} : ∀ rows : List (List Value), (∀ r ∈ rows, r.length = 2 ∧ Has (.pair 1 (.int .u8) (.pair 1 (.int .u8) .nil)) w r) → ∃ M : List (Nat × Nat), M.length = rows.length ∧ rows.flatten = pac M ∧ ∀ x ∈ M, x.1 ≤ 255 ∧ x.2 ≤ 255
  | [], _ => ⟨[], rfl, rfl, by simp⟩
  | r :: rows, h => by
    obtain ⟨M, h1, h2, h3⟩ := rows_pacts rows fun x hx => h x (List.mem_cons_of_mem _ hx)
    obtain ⟨_, _, _, rfl, _, ⟨s, rfl, hs⟩, _, _, rfl, _, ⟨p, rfl, hp⟩, rfl⟩ := h r List.mem_cons_self
    have hs' := pwf_u8 hs
    have hp' := pwf_u8 hp
    obtain ⟨s', rfl⟩ : ∃ s' : Nat, s = s' := ⟨s.toNat, by omega⟩
    obtain ⟨p', rfl⟩ : ∃ p' : Nat, p = p' := ⟨p.toNat, by omega⟩
    refine ⟨(s', p') :: M, by simp [h1], by rw [List.flatten_cons, h2]; rfl, fun x hx => ?_⟩
    rcases List.mem_cons.1 hx with rfl | hx
    · exact ⟨by dsimp only; omega, by dsimp only; omega⟩
    · exact h3 x hx
theorem open_pacts {H : Type} {enc : TypeId × Value → H} {w : World} {base b0 : Nat} {r : Reach} {sp : Nat → Bool} {held : Bool} {v : Value} {d : DataW H} {ps : List MemPlace}
    (hu : Value.okWide Try.prog w r b0 46 v) (h : DataW.Trod enc Try.prog w base sp held 46 v d ps) :
    ∃ (A : Option Addr) (n cap : Nat) (M : List (Nat × Nat)), v = .slice A n cap ∧ M.length = n ∧ Rd w w.heap.size A (pac M) ∧ ∀ x ∈ M, x.1 ≤ 255 ∧ x.2 ≤ 255 := by
  obtain ⟨a, len, cap, rfl⟩ := okWide_slice Try.underlying46 hu
  have hs := has_of (s := .slice 2 (.pair 1 (.int .u8) (.pair 1 (.int .u8) .nil))) 4 (by kernel_rfl) h
  obtain ⟨A, n, c, rows, h1, h2, h3, h4, h5, h6⟩ := hs
  obtain ⟨M, h7, h8, h10⟩ := rows_pacts rows h6
  have h9 : [Value.slice a len cap] = [.slice A n c] := h1
  obtain ⟨rfl, rfl, rfl⟩ : a = A ∧ len = n ∧ cap = c := by simpa using h9
  exact ⟨a, len, cap, M, rfl, by omega, by rw [← h8]; exact h5, h10⟩
theorem zero_nx (w : World) : (zeroValue 48).run Try.prog w = .ok (.agg (is (List.replicate 64 0)).toArray) w :=
  (zero_of_info (P := Try.prog) (t := 48) (v := .agg (is (List.replicate 64 0)).toArray) (n := 64) (by kernel_rfl)).1 w
theorem wpList_nx_alloc {w : World} {ops : Array Oper} {rest : List Oper} {o : Oper} {a : Act} {Q : Exit → Act → World → Prop} (hgd : o.guard = none) (ho : o.op = .alloc 48)
    (h : ∀ w', Box w' w.heap.size 48 (is (List.replicate 64 0)) → Below w.heap.size w w' → w'.heap.size = w.heap.size + 1 → wpList Try.prog ops Q rest (a.put o.dst (.pointer (some ⟨w.heap.size, 0, none⟩))) w') : wpList Try.prog ops Q (o :: rest) a w :=
  wpList_alloc_box w hgd _ ho (is (List.replicate 64 0)) zero_nx h
theorem is_getD {xs : List Int} {k : Nat} (h : k < xs.length) : (is xs)[k]? = some (.int .i64 (xs.getD k 0)) := by simp [is, h]
theorem rep_getD (n k : Nat) : (List.replicate n (0 : Int)).getD k 0 = 0 := by
  rw [List.getD_eq_getElem?_getD, List.getElem?_replicate]; split <;> rfl
theorem nx_set {c Z n : Nat} {nx ps : List Int} {j : Nat} {v : Int} (hz : Z = c + j) (hZ : Z < nx.length) (hj : j < ps.length) (E : ∀ i, i < n → nx.getD (c + i) 0 = ps.getD i 0) : ∀ i, i < n → (nx.set Z v).getD (c + i) 0 = (ps.set j v).getD i 0 := fun i hi => by
  rw [getD_set hZ, getD_set hj, E i hi]
  by_cases h : i = j
  · rw [if_pos (by omega), if_pos h]
  · rw [if_neg (by omega), if_neg h]
/-- what stands in memory between two acts -/
structure OneSt (w w' : World) (conv soft seq size opn : Int) (bp : Nat) (A : Option Addr) (n cap : Nat) (ps : List Int) (h0 h1 h2 : Int) (bn : Nat) (nx : List Int) : Prop where
  o : One w w' conv soft seq size opn
  bx : Box w' bp 31 (plcs A n cap h0 h1 h2)
  rd : Rd w' w'.heap.size A (is ps)
  ln : ps.length = n
  ri : Ri conv seq size ps h0 h1 h2
  nb : Box w' bn 48 (is nx)
  nl : nx.length = 64
  eq : ∀ i, i < n → nx.getD (conv.toNat + i) 0 = ps.getD i 0
  hp : w.heap.size < bp
  hn : w.heap.size < bn
section
variable {w w' w9 : World} {conv soft seq size opn : Int} {bp : Nat} {A : Option Addr} {n cap : Nat} {ps : List Int} {h0 h1 h2 : Int} {bn : Nat} {nx : List Int}
theorem OneSt.on (h : OneSt w w' conv soft seq size opn bp A n cap ps h0 h1 h2 bn nx) (hb : Below w'.heap.size w' w9) : OneSt w w9 conv soft seq size opn bp A n cap ps h0 h1 h2 bn nx :=
  ⟨One.below h.o hb, h.bx.on hb, (h.rd.below hb).more hb.size, h.ln, h.ri, h.nb.on hb, h.nl, h.eq, h.hp, h.hn⟩
theorem OneSt.ne (h : OneSt w w' conv soft seq size opn bp A n cap ps h0 h1 h2 bn nx) : bp ≠ bn := h.bx.ne h.nb (by decide)
theorem OneSt.put0 (h : OneSt w w' conv soft seq size opn bp A n cap ps h0 h1 h2 bn nx) {base g p : Nat} {qs : List Int} {k0 k1 k2 : Int} (O : w'.ownsRow base 3 1 (.slice (some ⟨g, 0, none⟩) n p) n (is qs)) (hg : bp < g) (ln : qs.length = n) (ri : Ri conv seq size qs k0 k1 k2)
    (eq : ∀ i, i < n → nx.getD (conv.toNat + i) 0 = qs.getD i 0) (x9 : Box w9 bp 31 (plcs (some ⟨g, 0, none⟩) n p k0 k1 k2)) (hg9 : w'.grownBy w9 (some bp)) : OneSt w w9 conv soft seq size opn bp (some ⟨g, 0, none⟩) n p qs k0 k1 k2 bn nx :=
  ⟨h.o.grown hg9 h.hp, x9, Rd.own (own_grown O hg9 (by omega)), ln, ri, h.nb.grown hg9 h.ne.symm, h.nl, eq, h.hp, h.hn⟩
theorem OneSt.put (h : OneSt w w' conv soft seq size opn bp A n cap ps h0 h1 h2 bn nx) {base g p Z : Nat} {qs : List Int} {k0 k1 k2 v : Int} (O : w'.ownsRow base 3 1 (.slice (some ⟨g, 0, none⟩) n p) n (is qs)) (hg : bp < g) (hgn : bn < g) (ln : qs.length = n) (ri : Ri conv seq size qs k0 k1 k2)
    (eq : ∀ i, i < n → (nx.set Z v).getD (conv.toNat + i) 0 = qs.getD i 0) (x9 : Box w9 bp 31 (plcs (some ⟨g, 0, none⟩) n p k0 k1 k2)) (hg9 : (w'.setCell ⟨bn, Z, none⟩ (.int .i64 v)).grownBy w9 (some bp)) : OneSt w w9 conv soft seq size opn bp (some ⟨g, 0, none⟩) n p qs k0 k1 k2 bn (nx.set Z v) := by
  have hc := pgrown_cell w' ⟨bn, Z, none⟩ (.int .i64 v)
  have hx := h.nb.set Z (.int .i64 v)
  rw [← is_set] at hx
  exact ⟨(h.o.grown hc h.hn).grown hg9 h.hp, x9, Rd.own (own_grown (own_grown O hc (by show g ≠ bn; omega)) hg9 (by omega)), ln, ri, hx.grown hg9 h.ne.symm, by rw [List.length_set]; exact h.nl, eq, h.hp, h.hn⟩
end
/-- a step, said of the row's point -/
theorem one_step (conv soft seq size opn : Int) (n : Nat) (ps : List Int) (h0 h1 h2 : Int) (s : Nat) (hm : n ≤ 64) (hn : ps.length = n) (S : Some conv seq size) (R : Ri conv seq size ps h0 h1 h2) (hs : s < 3) :
    (∀ (w : World) (A : Option Addr) (cap : Nat), Rd w w.heap.size A (is ps) → Calls Try.prog 16 #[pgv conv soft seq size opn, ppv A n cap h0 h1 h2, .int .i64 s] w fun e w' => ∃ g c, e = .returned (.tuple #[.agg #[.int .i64 0, .int .i64 0], ppv (some ⟨g, 0, none⟩) n c h0 h1 h2, .bool false]) ∧ w'.ownsRow w.heap.size 3 1 (.slice (some ⟨g, 0, none⟩) n c) n (is ps) ∧ Below w.heap.size w w') ∨
      ∃ (j : Nat) (x k0 k1 k2 : Int), j < n ∧ ps.getD j 0 = x ∧ 0 ≤ x ∧ x < size ∧ Ri conv seq size (ps.set j (x + 1)) k0 k1 k2 ∧
        ∀ (w : World) (A : Option Addr) (cap : Nat), Rd w w.heap.size A (is ps) → Calls Try.prog 16 #[pgv conv soft seq size opn, ppv A n cap h0 h1 h2, .int .i64 s] w fun e w' => ∃ g c, e = .returned (.tuple #[.agg #[.int .i64 (conv + j), .int .i64 x], ppv (some ⟨g, 0, none⟩) n c k0 k1 k2, .bool true]) ∧ w'.ownsRow w.heap.size 3 1 (.slice (some ⟨g, 0, none⟩) n c) n (is (ps.set j (x + 1))) ∧ Below w.heap.size w w' := by
  cases hp : pick conv ps h0 h1 h2 n s with
  | none => exact .inl fun w A cap hr => pstep_none conv soft seq size opn A n cap ps h0 h1 h2 s w hm hn S R hr hs hp
  | some z =>
    rw [← hn] at hp
    obtain ⟨j, x, rfl, G⟩ := R.go (by have := S.2.2.2.1; omega) hs hp
    exact .inr ⟨j, x, _, _, _, by have := G.hj; omega, G.hx, G.x0, G.x1, G.ri R S, fun w A cap hr => pstep_go conv soft seq size opn A n cap ps h0 h1 h2 s j x w hm hn S R hr G⟩
set_option maxRecDepth 100000 in
set_option maxHeartbeats 16000000 in
theorem polaw_one (conv soft seq size opn : Int) (A : Option Addr) (nA cap : Nat) (M : List (Nat × Nat)) (w : World) (hM : M.length = nA) (hr : Rd w w.heap.size A (pac M)) (hMx : ∀ x ∈ M, x.1 ≤ 255 ∧ x.2 ≤ 255) :
    Calls Try.prog 5 #[pgv conv soft seq size opn, .slice A nA cap] w fun e w' => e = .returned (.bool true) ∧ Below w.heap.size w w' := by
  have H0 := Lib.hid (One.new w conv soft seq size opn 23)
  have HB := Lib.hid fun w => rright_any conv soft seq size opn w
  by_cases hok : Ok conv soft seq size opn
  rotate_left
  · rw [ok_no hok] at HB
    go_enter Try.func5, Try.ntmps5
    go_wp2_with fail
    generalize World.alloc _ _ = w0 at H0 ⊢
    refine (awake11_any _).mono ?_
    rintro e w1 ⟨rfl, hb⟩
    have H1 := Lib.hid (One.below H0.out hb)
    obtain ⟨c0, c1, c2, c3, c4, cl⟩ := id H1.out.1
    clear H0 hb
    go_wp2_with fail
    refine (HB.out _).mono ?_
    rintro e w2 ⟨rfl, hb⟩
    have H2 := Lib.hid (One.below H1.out hb)
    clear H1 hb c0 c1 c2 c3 c4 cl
    go_wp2_with fail
    refine (awake11_any _).mono ?_
    rintro e w9 ⟨rfl, hb9⟩
    have H9 := Lib.hid (One.below H2.out hb9)
    clear hb9
    go_wp2
    go_ret
    exact ⟨rfl, H9.out.2⟩
  rw [ok_yes hok] at HB
  by_cases h4 : 400 < nA
  · have hd4 : decide ((400 : Int) < (nA : Int)) = true := decide_eq_true (by omega)
    go_enter Try.func5, Try.ntmps5
    go_wp2_with fail
    generalize World.alloc _ _ = w0 at H0 ⊢
    refine (awake11_any _).mono ?_
    rintro e w1 ⟨rfl, hb⟩
    have H1 := Lib.hid (One.below H0.out hb)
    obtain ⟨c0, c1, c2, c3, c4, cl⟩ := id H1.out.1
    clear H0 hb
    go_wp2_with fail
    refine (HB.out _).mono ?_
    rintro e w2 ⟨rfl, hb⟩
    have H2 := Lib.hid (One.below H1.out hb)
    clear H1 hb c0 c1 c2 c3 c4 cl
    go_wp2_with fail
    refine (awake11_any _).mono ?_
    rintro e w9 ⟨rfl, hb9⟩
    have H9 := Lib.hid (One.below H2.out hb9)
    clear hb9
    go_wp2
    go_ret
    exact ⟨rfl, H9.out.2⟩
  have hd4 : decide ((400 : Int) < (nA : Int)) = false := decide_eq_false (by omega)
  obtain ⟨n, hn⟩ : ∃ n : Nat, (n : Int) = seq := ⟨seq.toNat, by have := hok.2.1; omega⟩
  obtain ⟨N, hN⟩ : ∃ N : Nat, (N : Int) = conv + seq := ⟨(conv + seq).toNat, by have := hok.1; omega⟩
  have hsm := hok.some
  have HNew := Lib.hid fun w' => rnew_any conv soft seq size opn N w' hsm hN
  have HOpen := Lib.hid fun w' A cz h hr => popen_new conv soft seq size opn A N cz n w' hsm hN hn h hr
  have hn64 : 6 ≤ n ∧ n ≤ 64 := ⟨by have := hsm.2.1; omega, by have := hsm.2.2.1; have := hsm.1; omega⟩
  have HRi0 := Lib.hid (show Ri conv seq size (List.replicate n 0) 0 0 0 from by
    have h := open_right (conv := conv) (U := List.replicate n 0) hsm (by rw [List.length_replicate]; exact hn) (fun k x hx => by rw [List.getElem?_replicate] at hx; split at hx <;> simp at hx; have := hsm.2.2.2.1; omega) (by rw [new_beg]; simp)
    rwa [new_beg] at h)
  have HS := Lib.hid hsm
  have HN := Lib.hid hn
  have HN64 := Lib.hid hn64
  have HMn := Lib.hid hM
  have HMx := Lib.hid hMx
  have HR0 := Lib.hid fun w' (h : Below w.heap.size w w') => hr.below h
  clear hok hsm hM hMx hr hn64 hN
  go_enter Try.func5, Try.ntmps5
  go_wp2_with fail
  generalize World.alloc _ _ = w0 at H0 ⊢
  refine (awake11_any _).mono ?_
  rintro e w1 ⟨rfl, hb⟩
  have H1 := Lib.hid (One.below H0.out hb)
  obtain ⟨c0, c1, c2, c3, c4, cl⟩ := id H1.out.1
  clear H0 hb
  go_wp2_with fail
  refine (HB.out _).mono ?_
  rintro e w2 ⟨rfl, hb⟩
  have H2 := Lib.hid (One.below H1.out hb)
  clear H1 hb c0 c1 c2 c3 c4 cl
  obtain ⟨c0, c1, c2, c3, c4, cl⟩ := id H2.out.1
  go_wp2_with fail
  have SO := Lib.hid fun w' (h : Below w2.heap.size w2 w') => (fun (q : Lies w' w.heap.size conv soft seq size opn) => (⟨q.1, q.2.1, q.2.2.1, q.2.2.2.1, q.2.2.2.2.1⟩ :
    w'.cell? ⟨w.heap.size, 0, none⟩ = some (.int .i64 conv) ∧ w'.cell? ⟨w.heap.size, 1, none⟩ = some (.int .i64 soft) ∧ w'.cell? ⟨w.heap.size, 2, none⟩ = some (.int .i64 seq) ∧ w'.cell? ⟨w.heap.size, 3, none⟩ = some (.int .i64 size) ∧ w'.cell? ⟨w.heap.size, 4, none⟩ = some (.int .i64 opn))) (H2.out.1.below h)
  clear c0 c1 c2 c3 c4 cl
  apply wp_meetP (fun w' b' g' => Below w2.heap.size w2 w' ∧ w2.heap.size ≤ b' ∧ w2.heap.size ≤ g' ∧ Box w' b' 31 (plcs (some ⟨g', 0, none⟩) n n 0 0 0) ∧ w'.ownsRow w2.heap.size 3 1 (.slice (some ⟨g', 0, none⟩) n n) n (is (List.replicate n 0)))
  · go_region_held3 (fun w' => w'.cell? ⟨w.heap.size, 0, none⟩ = some (.int .i64 conv) ∧ w'.cell? ⟨w.heap.size, 1, none⟩ = some (.int .i64 soft) ∧ w'.cell? ⟨w.heap.size, 2, none⟩ = some (.int .i64 seq) ∧ w'.cell? ⟨w.heap.size, 3, none⟩ = some (.int .i64 size) ∧ w'.cell? ⟨w.heap.size, 4, none⟩ = some (.int .i64 opn))
      (first | exact SO.out _ B6 | exact SO.out _ (B6.alloc B6.size _) | exact SO.out _ ((((B6.setCell LB _).setCell LB _).setCell LB _).setCell LB _) | exact SO.out _ B5 | exact SO.out _ (B5.alloc B5.size _) | exact SO.out _ (Below.refl _ _).drew | exact SO.out _ ((Below.refl _ _).alloc (Nat.le_refl _) _).drew)
      ((first
        | ((with_reducible refine (HNew.out _).mono ?_); rintro e w5 ⟨gz, cz, rfl, hown5, hb5⟩; have B5 : Below w2.heap.size w2 w5 := (by first | exact bthen (Below.refl _ _).drew hb5 | exact bthen ((Below.refl _ _).alloc (Nat.le_refl _) _).drew hb5); try (have X5 := (Box.new w2 31 (plcs none 0 0 0 0 0)).drew1.on hb5))
        | ((with_reducible refine (HOpen.out _ _ _ (own_cap hown5).1 (by first | exact Rd.own hown5 | exact Rd.own (World.ownsRow.alloc hown5 _))).mono ?_); rintro e w6 ⟨g6, rfl, hown6, hb6⟩; have B6 : Below w2.heap.size w2 w6 := (by first | exact bthen B5 hb6 | exact bthen (B5.alloc B5.size _) hb6); have O6 : w6.ownsRow w2.heap.size 3 1 (.slice (some ⟨g6, 0, none⟩) n n) n (is (List.replicate n 0)) := (by first | exact own_base0 hown6 B5.size | exact own_base0 hown6 (B5.alloc B5.size _).size); (first | (have X6 := X5.on hb6; have LB : w2.heap.size ≤ w2.heap.size := Nat.le_refl _; have X6a := X6.set 0 (.slice (some ⟨g6, 0, none⟩) n n); have X6b := X6a.set 1 (.int .i64 0); have X6c := X6b.set 2 (.int .i64 0); have X6d := X6c.set 3 (.int .i64 0); have y0 : World.cell? _ ⟨_, 0, none⟩ = some (.slice none 0 0) := X6.cell 0; have z0 := X6.frozen 0; have y1 : World.cell? _ ⟨_, 1, none⟩ = some (.int .i64 0) := X6a.cell 1; have z1 := X6a.frozen 1; have y2 : World.cell? _ ⟨_, 2, none⟩ = some (.int .i64 0) := X6b.cell 2; have z2 := X6b.frozen 2; have y3 : World.cell? _ ⟨_, 3, none⟩ = some (.int .i64 0) := X6c.cell 3; have z3 := X6c.frozen 3) | (have X6 := (Box.new w5 31 (plcs none 0 0 0 0 0)).on hb6; have LB : w2.heap.size ≤ w5.heap.size := B5.size; have X6a := X6.set 0 (.slice (some ⟨g6, 0, none⟩) n n); have X6b := X6a.set 1 (.int .i64 0); have X6c := X6b.set 2 (.int .i64 0); have X6d := X6c.set 3 (.int .i64 0); have y0 : World.cell? _ ⟨_, 0, none⟩ = some (.slice none 0 0) := X6.cell 0; have z0 := X6.frozen 0; have y1 : World.cell? _ ⟨_, 1, none⟩ = some (.int .i64 0) := X6a.cell 1; have z1 := X6a.frozen 1; have y2 : World.cell? _ ⟨_, 2, none⟩ = some (.int .i64 0) := X6b.cell 2; have z2 := X6b.frozen 2; have y3 : World.cell? _ ⟨_, 3, none⟩ = some (.int .i64 0) := X6c.cell 3; have z3 := X6c.frozen 3) | skip))))
    · have F := laid_a B6 O6 (show 0 < n by have := HN64.out; omega)
      generalize w6.alloc _ = w9 at F ⊢
      generalize w6.heap.size = b6 at F ⊢
      exact ⟨b6, g6, gz, cz, F, rfl⟩
    · have F := laid_b B6 LB X6 O6 (show 0 < n by have := HN64.out; omega)
      clear X6a X6b X6c X6d y0 y1 y2 y3 z0 z1 z2 z3 X6
      generalize World.setCell _ _ _ = w9 at F ⊢
      generalize w5.heap.size = b6 at F ⊢
      exact ⟨b6, g6, gz, cz, F, rfl⟩
    · have F := laid_b B6 LB X6 O6 (show 0 < n by have := HN64.out; omega)
      clear X6a X6b X6c X6d y0 y1 y2 y3 z0 z1 z2 z3 X6
      generalize World.setCell _ _ _ = w9 at F ⊢
      generalize hb6' : w2.heap.size = b6 at F ⊢
      exact ⟨b6, g6, gz, cz, F, rfl⟩
  rintro w3 bp g0 gz cz ⟨hb3, hbp, hg3, x3, o3⟩
  have K3 := Lib.hid (And.intro (One.below H2.out hb3) (And.intro x3 (And.intro (Rd.own o3) (show w.heap.size < bp from Nat.lt_of_lt_of_le H2.out.1.2.2.2.2.2 hbp))))
  clear hb3 hbp hg3 x3 o3 SO H2 HNew HOpen
  go_wp2_with (first
    | ((with_reducible refine wpList_nx_alloc (o := ⟨_, .alloc _, _, _, _, _⟩) rfl rfl ?_); intro u4 xn hu4 hs4; have hlt : w.heap.size < w3.heap.size := K3.out.1.1.2.2.2.2.2; have K0 := Lib.hid (show OneSt w u4 conv soft seq size opn bp (some ⟨g0, 0, none⟩) n n (List.replicate n 0) 0 0 0 w3.heap.size (List.replicate 64 0) from ⟨One.below K3.out.1 hu4, K3.out.2.1.on hu4, (K3.out.2.2.1.below hu4).more hu4.size, List.length_replicate, HRi0.out, xn, List.length_replicate, fun i hi => by rw [rep_getD, rep_getD], K3.out.2.2.2, hlt⟩); clear xn hu4 hs4 hlt K3; generalize w3.heap.size = bn at K0 ⊢)
    | fail)
  go_loopw [8] (fun i wr => ∃ (k : Nat) (A1 : Option Addr) (c1 : Nat) (ps : List Int) (h0 h1 h2 : Int) (nx : List Int), k ≤ nA ∧ i = .int .i64 k ∧ OneSt w wr conv soft seq size opn bp A1 n c1 ps h0 h1 h2 bn nx) (fun i _ => nA - (intOf i).toNat)
  case atStart => exact ⟨0, _, _, _, _, _, _, _, by omega, rfl, K0.out⟩
  case round =>
    obtain ⟨k, A1, c1', ps, h0, h1, h2, nx, hk, rfl, hK⟩ := hrel
    have K1 := Lib.hid hK
    clear hK K0
    by_cases hkn : k < nA
    rotate_left
    · go_wp2
      go_ret
      exact ⟨rfl, K1.out.o.2⟩
    have hxk : M[k]? = some (M.getD k (0, 0)) := by rw [List.getD_eq_getElem?_getD, List.getElem?_eq_getElem (by rw [HMn.out]; exact hkn)]; rfl
    have hx0 := HMx.out _ (List.mem_of_getElem? hxk)
    generalize M.getD k (0, 0) = x at hxk hx0
    obtain ⟨st, zn⟩ := x
    obtain ⟨hst, hzn⟩ := hx0
    have hR := HR0.out _ K1.out.o.2
    obtain ⟨ad, rfl, hadb, b0', b1'⟩ := hR.pact hxk
    dsimp only at hst hzn b0' b1'
    have hkI : (k : Int) < (nA : Int) := by omega
    have hsq := HN.out
    have hn64 := HN64.out
    have hs1 := HS.out.1
    have hs3 := HS.out.2.2.1
    have hs5 := HS.out.2.2.2.2
    have hs4 := HS.out.2.2.2.1
    by_cases h3 : st % 4 = 3
    · have hq : (((st : Int) % 4) == 3) = true := by simp; omega
      have hz1 := Int.emod_nonneg (zn : Int) (show seq ≠ 0 by omega)
      have hz2 := Int.emod_lt_of_pos (zn : Int) (show 0 < seq by omega)
      obtain ⟨j, hj, hZj⟩ : ∃ j : Nat, j < n ∧ (zn : Int) % seq = j := ⟨((zn : Int) % seq).toNat, by omega, by omega⟩
      obtain ⟨Z, hZ⟩ : ∃ Z : Nat, conv + (j : Int) = Z := ⟨(conv + (j : Int)).toNat, by omega⟩
      have hZ64 : Z < 64 := by omega
      have hZI : (Z : Int) < 64 := by omega
      have hsum : IntKind.i64.wrap (conv + (j : Int)) = (Z : Int) := by rw [hZ]; exact IntWalk.i64_in _ (by omega)
      have hsq0 : ¬ seq = 0 := by omega
      have HNx := Lib.hid (show (is nx)[Z]? = some (.int .i64 (ps.getD j 0)) by rw [is_getD (by rw [K1.out.nl]; exact hZ64), show Z = conv.toNat + j by omega, K1.out.eq j hj])
      obtain ⟨c0, c1, c2, c3, c4, cl⟩ := id K1.out.o.1
      go_wp2_with fail
      go_quiet (fail)
      have K2 := Lib.hid (K1.out.on (below_draws (Below.refl _ _) nq))
      clear c0 c1 c2 c3 c4 cl b0' b1' hsum
      generalize World.drewN _ nq = w5 at K2 ⊢
      obtain ⟨c0, c1, c2, c3, c4, cl⟩ := id K2.out.o.1
      obtain ⟨b0, b1, b2, b3, bl⟩ := K2.out.bx.pool
      by_cases hx : ps.getD j 0 = size
      · rw [hx] at HNx
        have HRs := Lib.hid fun (w' : World) (hr : Rd w' w'.heap.size A1 (is ps)) => preset_yes conv soft seq size opn A1 n c1' ps h0 h1 h2 j w' HN64.out.2 K1.out.ln HS.out K1.out.ri hr hj hx
        rw [show conv + (j : Int) = (Z : Int) by omega] at HRs
        have HRq := Lib.hid (K1.out.ri.reset HS.out (by rw [K1.out.ln]; exact hj) hx)
        have HEq := Lib.hid (nx_set (v := 0) (n := n) (show Z = conv.toNat + j by omega) (by rw [K1.out.nl]; exact hZ64) (by rw [K1.out.ln]; exact hj) K1.out.eq)
        have hq2 : (true != true) = false := rfl
        go_wp2_with fail
        refine (HRs.out _ K2.out.rd).mono ?_
        rintro e w6 ⟨g6, p6, rfl, hown, hb⟩
        have K6 := Lib.hid (K2.out.on hb)
        have O6 := Lib.hid hown
        have G6 := Lib.hid (show bp < g6 ∧ bn < g6 by
          obtain ⟨g', hA, h1', _⟩ := own_at hown (by have := HN64.out; omega)
          obtain rfl : g6 = g' := by injection hA with h; injection h
          have := K2.out.bx.lt
          have := K2.out.nb.lt
          omega)
        clear hb hown c0 c1 c2 c3 c4 cl b0 b1 b2 b3 bl K2 HRs
        go_wp2_with (first
          | ((with_reducible refine wpList_pool_alloc (o := ⟨_, .alloc _, _, _, _, _⟩) rfl rfl ?_); intro u2 xb hu2 hs2)
          | ((with_reducible refine wpList_pool_store (o := ⟨none, .store _ _ _, _, _, _, _⟩) rfl _ _ rfl _ (some ⟨g6, 0, none⟩) none n 0 p6 0 h0 h1 h2 0 0 0 rfl rfl xb ?_); intro u4 xd hu4; have hv1 := hu2.grown hu4 hu2.size (fun k hk => by injection hk with hk; omega); clear xb hu2 hs2 hu4; generalize hbp : w6.heap.size = bp7 at xd ⊢; have K7 := Lib.hid (K6.out.on hv1); have O7 := Lib.hid (own_below O6.out hv1); clear K6 O6; have XQ7 := Lib.hid xd; clear hv1 xd hbp; obtain ⟨c0, c1, c2, c3, c4, cl⟩ := id K7.out.o.1; have d1 := (K7.out.nb.cell Z).trans (HNx.out))
          | fail)
        go_quiet (fail)
        have K8 := Lib.hid (K7.out.on (below_draws (Below.refl _ _) nq))
        have O8 := Lib.hid (own_below O7.out (below_draws (Below.refl _ _) nq))
        have XQ8 := Lib.hid (XQ7.out.on (below_draws (Below.refl _ _) nq))
        clear c0 c1 c2 c3 c4 cl d1 K7 O7 XQ7
        generalize World.drewN _ nq = w8 at K8 O8 XQ8 ⊢
        have d1 := (K8.out.nb.cell Z).trans HNx.out
        have f1 := K8.out.nb.frozen Z
        have hc := pgrown_cell w8 ⟨bn, Z, none⟩ (.int .i64 0)
        obtain ⟨e0, e1, e2, e3, el⟩ := (XQ8.out.grown hc (XQ8.out.ne K8.out.nb (by decide))).pool
        have XB9 := Lib.hid (K8.out.bx.grown hc K8.out.ne)
        clear hc
        go_wp2_with (first
          | ((with_reducible refine wpList_pool_store (o := ⟨none, .store _ _ _, _, _, _, _⟩) rfl _ _ rfl _ (some ⟨g6, 0, none⟩) A1 n n p6 c1' h0 h1 h2 h0 h1 h2 rfl rfl XB9.out ?_); intro w9 x9 hg9; have K9 := Lib.hid (K8.out.put O8.out G6.out.1 G6.out.2 (by rw [List.length_set]; exact K8.out.ln) HRq.out HEq.out x9 hg9); clear x9 hg9; obtain ⟨c0, c1, c2, c3, c4, cl⟩ := id K9.out.o.1; obtain ⟨b0, b1, b2, b3, bl⟩ := K9.out.bx.pool)
          | fail)
        have hrb := right_iff.2 K9.out.ri
        obtain ⟨z0, z1, z2⟩ := head_lt hrb HS.out
        have HRt := Lib.hid (pright_any conv soft seq size opn (some ⟨g6, 0, none⟩) n p6 _ _ _ _ w9 (by have := HN64.out; simp only [maxLen]; omega) K9.out.ln HS.out z0 z1 z2 K9.out.rd)
        rw [hrb] at HRt
        clear hrb z0 z1 z2
        refine HRt.out.mono ?_
        rintro e w10 ⟨rfl, hb⟩
        have K10 := Lib.hid (K9.out.on hb)
        clear hb K9
        go_wp2
        go_roundw
        case rel => exact ⟨k + 1, _, _, _, _, _, _, _, by omega, by go_num, K10.out⟩
        case measure => first | (simp [intOf]; done) | (simp [intOf]; omega)
      · have HRs := Lib.hid fun (w' : World) (hr : Rd w' w'.heap.size A1 (is ps)) => preset_no conv soft seq size opn A1 n c1' ps h0 h1 h2 j w' HN64.out.2 K1.out.ln HS.out K1.out.ri hr hj hx
        rw [show conv + (j : Int) = (Z : Int) by omega] at HRs
        have hq1 : (ps.getD j 0 == size) = false := by simpa using hx
        have hq2 : (false != false) = false := rfl
        clear hx
        generalize ps.getD j 0 = y at HNx hq1
        go_wp2_with fail
        refine (HRs.out _ K2.out.rd).mono ?_
        rintro e w6 ⟨g6, p6, rfl, hown, hb⟩
        have K6 := Lib.hid (K2.out.on hb)
        have O6 := Lib.hid hown
        have G6 := Lib.hid (show bp < g6 ∧ bn < g6 by
          obtain ⟨g', hA, h1', _⟩ := own_at hown (by have := HN64.out; omega)
          obtain rfl : g6 = g' := by injection hA with h; injection h
          have := K2.out.bx.lt
          have := K2.out.nb.lt
          omega)
        clear hb hown c0 c1 c2 c3 c4 cl b0 b1 b2 b3 bl K2 HRs
        go_wp2_with (first
          | ((with_reducible refine wpList_pool_alloc (o := ⟨_, .alloc _, _, _, _, _⟩) rfl rfl ?_); intro u2 xb hu2 hs2)
          | ((with_reducible refine wpList_pool_store (o := ⟨none, .store _ _ _, _, _, _, _⟩) rfl _ _ rfl _ (some ⟨g6, 0, none⟩) none n 0 p6 0 h0 h1 h2 0 0 0 rfl rfl xb ?_); intro u4 xd hu4; have hv1 := hu2.grown hu4 hu2.size (fun k hk => by injection hk with hk; omega); clear xb hu2 hs2 hu4; generalize hbp : w6.heap.size = bp7 at xd ⊢; have K7 := Lib.hid (K6.out.on hv1); have O7 := Lib.hid (own_below O6.out hv1); clear K6 O6; have XQ7 := Lib.hid xd; clear hv1 xd hbp; obtain ⟨c0, c1, c2, c3, c4, cl⟩ := id K7.out.o.1; have d1 := (K7.out.nb.cell Z).trans (HNx.out))
          | fail)
        go_quiet (fail)
        have K8 := Lib.hid (K7.out.on (below_draws (Below.refl _ _) nq))
        have O8 := Lib.hid (own_below O7.out (below_draws (Below.refl _ _) nq))
        have XQ8 := Lib.hid (XQ7.out.on (below_draws (Below.refl _ _) nq))
        clear c0 c1 c2 c3 c4 cl d1 K7 O7 XQ7
        generalize World.drewN _ nq = w8 at K8 O8 XQ8 ⊢
        obtain ⟨e0, e1, e2, e3, el⟩ := XQ8.out.pool
        go_wp2_with (first
          | ((with_reducible refine wpList_pool_store (o := ⟨none, .store _ _ _, _, _, _, _⟩) rfl _ _ rfl _ (some ⟨g6, 0, none⟩) A1 n n p6 c1' h0 h1 h2 h0 h1 h2 rfl rfl K8.out.bx ?_); intro w9 x9 hg9; have K9 := Lib.hid (K8.out.put0 O8.out G6.out.1 K8.out.ln K8.out.ri K8.out.eq x9 hg9); clear x9 hg9; obtain ⟨c0, c1, c2, c3, c4, cl⟩ := id K9.out.o.1; obtain ⟨b0, b1, b2, b3, bl⟩ := K9.out.bx.pool)
          | fail)
        have hrb := right_iff.2 K9.out.ri
        obtain ⟨z0, z1, z2⟩ := head_lt hrb HS.out
        have HRt := Lib.hid (pright_any conv soft seq size opn (some ⟨g6, 0, none⟩) n p6 _ _ _ _ w9 (by have := HN64.out; simp only [maxLen]; omega) K9.out.ln HS.out z0 z1 z2 K9.out.rd)
        rw [hrb] at HRt
        clear hrb z0 z1 z2
        refine HRt.out.mono ?_
        rintro e w10 ⟨rfl, hb⟩
        have K10 := Lib.hid (K9.out.on hb)
        clear hb K9
        go_wp2
        go_roundw
        case rel => exact ⟨k + 1, _, _, _, _, _, _, _, by omega, by go_num, K10.out⟩
        case measure => first | (simp [intOf]; done) | (simp [intOf]; omega)
    · have hq : (((st : Int) % 4) == 3) = false := by simp; omega
      obtain hS1 | ⟨j, x, k0, k1, k2, hj, hx, x0, x1, hri, hS1⟩ := one_step conv soft seq size opn n ps h0 h1 h2 (st % 4) hn64.2 K1.out.ln HS.out K1.out.ri (by omega)
      · have hS1 := Lib.hid hS1
        obtain ⟨c0, c1, c2, c3, c4, cl⟩ := id K1.out.o.1
        obtain ⟨b0, b1, b2, b3, bl⟩ := K1.out.bx.pool
        go_wp2_with fail
        rw [show ((st : Int) % 4) = ((st % 4 : Nat) : Int) by omega]
        refine (hS1.out _ _ _ K1.out.rd).mono ?_
        rintro e w6 ⟨g6, p6, rfl, hown, hb⟩
        have K6 := Lib.hid (K1.out.on hb)
        have O6 := Lib.hid hown
        have G6 := Lib.hid (show bp < g6 ∧ bn < g6 by
          obtain ⟨g', hA, h1', _⟩ := own_at hown (by have := HN64.out; omega)
          obtain rfl : g6 = g' := by injection hA with h; injection h
          have := K1.out.bx.lt
          have := K1.out.nb.lt
          omega)
        clear hb hown c0 c1 c2 c3 c4 cl b0 b1 b2 b3 bl K1 hS1
        go_wp2_with (first
          | ((with_reducible refine wpList_pat_alloc (o := ⟨_, .alloc _, _, _, _, _⟩) rfl rfl ?_); intro u1 xa hu1 hs1)
          | ((with_reducible refine wpList_pool_alloc (o := ⟨_, .alloc _, _, _, _, _⟩) rfl rfl ?_); intro u2 xb hu2 hs2; have xa2 := xa.on hu2)
          | ((with_reducible refine wpList_pat_store (o := ⟨none, .store _ _ _, _, _, _, _⟩) rfl _ _ rfl _ 0 0 0 0 rfl rfl xa2 ?_); intro u3 xc hu3; have xb3 := xb.grown hu3 (xb.ne xa2 (by decide)))
          | ((with_reducible refine wpList_pool_store (o := ⟨none, .store _ _ _, _, _, _, _⟩) rfl _ _ rfl _ (some ⟨g6, 0, none⟩) none n 0 p6 0 h0 h1 h2 0 0 0 rfl rfl xb3 ?_); intro u4 xd hu4; have hv := vars_laid hu1 hs1 hu2 hu3 hu4 xc xd; clear xa xb xa2 xb3 xc xd hu1 hs1 hu2 hs2 hu3 hu4; generalize u1.heap.size = bp7 at hv ⊢; generalize hba : w6.heap.size = ba7 at hv ⊢; have hv1 := hv.1; rw [← hba] at hv1; have K7 := Lib.hid (K6.out.on hv1); have O7 := Lib.hid (own_below O6.out hv1); clear K6 O6; have XA7 := Lib.hid hv.2.1; have XP7 := Lib.hid hv.2.2; clear hv hv1 hba; obtain ⟨e0, e1, e2, e3, el⟩ := XP7.out.pool)
          | ((with_reducible refine wpList_pool_store (o := ⟨none, .store _ _ _, _, _, _, _⟩) rfl _ _ rfl _ (some ⟨g6, 0, none⟩) A1 n n p6 c1' h0 h1 h2 h0 h1 h2 rfl rfl K7.out.bx ?_); intro w9 x9 hg9; have K9 := Lib.hid (K7.out.put0 O7.out G6.out.1 K7.out.ln K7.out.ri K7.out.eq x9 hg9); clear x9 hg9; obtain ⟨c0, c1, c2, c3, c4, cl⟩ := id K9.out.o.1; obtain ⟨b0, b1, b2, b3, bl⟩ := K9.out.bx.pool)
          | fail)
        have hrb := right_iff.2 K9.out.ri
        obtain ⟨z0, z1, z2⟩ := head_lt hrb HS.out
        have HRt := Lib.hid (pright_any conv soft seq size opn (some ⟨g6, 0, none⟩) n p6 _ _ _ _ w9 (by have := HN64.out; simp only [maxLen]; omega) K9.out.ln HS.out z0 z1 z2 K9.out.rd)
        rw [hrb] at HRt
        clear hrb z0 z1 z2
        refine HRt.out.mono ?_
        rintro e w10 ⟨rfl, hb⟩
        have K10 := Lib.hid (K9.out.on hb)
        clear hb K9
        go_wp2
        go_roundw
        case rel => exact ⟨k + 1, _, _, _, _, _, _, _, by omega, by go_num, K10.out⟩
        case measure => first | (simp [intOf]; done) | (simp [intOf]; omega)
      · obtain ⟨Z, hZ⟩ : ∃ Z : Nat, conv + (j : Int) = Z := ⟨(conv + (j : Int)).toNat, by omega⟩
        rw [hZ] at hS1
        have hZ64 : Z < 64 := by omega
        have hZI : (Z : Int) < 64 := by omega
        have HNx := Lib.hid (show (is nx)[Z]? = some (.int .i64 x) by rw [is_getD (by rw [K1.out.nl]; exact hZ64), show Z = conv.toNat + j by omega, K1.out.eq j hj, hx])
        have HRq := Lib.hid hri
        have HEq := Lib.hid (nx_set (v := x + 1) (n := n) (show Z = conv.toNat + j by omega) (by rw [K1.out.nl]; exact hZ64) (by rw [K1.out.ln]; exact hj) K1.out.eq)
        have hw1 := IntWalk.i64_in (conv + seq) (by omega)
        have hw2 := IntWalk.i64_in (x + 1) (by omega)
        have hd1 : decide ((Z : Int) < conv) = false := decide_eq_false (by omega)
        have hd2 : decide (conv + seq ≤ (Z : Int)) = false := decide_eq_false (by omega)
        have hS1 := Lib.hid hS1
        clear hri hx
        obtain ⟨c0, c1, c2, c3, c4, cl⟩ := id K1.out.o.1
        obtain ⟨b0, b1, b2, b3, bl⟩ := K1.out.bx.pool
        go_wp2_with fail
        rw [show ((st : Int) % 4) = ((st % 4 : Nat) : Int) by omega]
        refine (hS1.out _ _ _ K1.out.rd).mono ?_
        rintro e w6 ⟨g6, p6, rfl, hown, hb⟩
        have K6 := Lib.hid (K1.out.on hb)
        have O6 := Lib.hid hown
        have G6 := Lib.hid (show bp < g6 ∧ bn < g6 by
          obtain ⟨g', hA, h1', _⟩ := own_at hown (by have := HN64.out; omega)
          obtain rfl : g6 = g' := by injection hA with h; injection h
          have := K1.out.bx.lt
          have := K1.out.nb.lt
          omega)
        clear hb hown c0 c1 c2 c3 c4 cl b0 b1 b2 b3 bl K1 hS1
        go_wp2_with (first
          | ((with_reducible refine wpList_pat_alloc (o := ⟨_, .alloc _, _, _, _, _⟩) rfl rfl ?_); intro u1 xa hu1 hs1)
          | ((with_reducible refine wpList_pool_alloc (o := ⟨_, .alloc _, _, _, _, _⟩) rfl rfl ?_); intro u2 xb hu2 hs2; have xa2 := xa.on hu2)
          | ((with_reducible refine wpList_pat_store (o := ⟨none, .store _ _ _, _, _, _, _⟩) rfl _ _ rfl _ Z x 0 0 rfl rfl xa2 ?_); intro u3 xc hu3; have xb3 := xb.grown hu3 (xb.ne xa2 (by decide)))
          | ((with_reducible refine wpList_pool_store (o := ⟨none, .store _ _ _, _, _, _, _⟩) rfl _ _ rfl _ (some ⟨g6, 0, none⟩) none n 0 p6 0 k0 k1 k2 0 0 0 rfl rfl xb3 ?_); intro u4 xd hu4; have hv := vars_laid hu1 hs1 hu2 hu3 hu4 xc xd; clear xa xb xa2 xb3 xc xd hu1 hs1 hu2 hs2 hu3 hu4; generalize u1.heap.size = bp7 at hv ⊢; generalize hba : w6.heap.size = ba7 at hv ⊢; have hv1 := hv.1; rw [← hba] at hv1; have K7 := Lib.hid (K6.out.on hv1); have O7 := Lib.hid (own_below O6.out hv1); clear K6 O6; have XA7 := Lib.hid hv.2.1; have XP7 := Lib.hid hv.2.2; clear hv hv1 hba; obtain ⟨c0, c1, c2, c3, c4, cl⟩ := id K7.out.o.1; obtain ⟨m0, m0'⟩ := XA7.out.at2; have d1 := (K7.out.nb.cell Z).trans (HNx.out))
          | fail)
        go_quiet (fail)
        have K8 := Lib.hid (K7.out.on (below_draws (Below.refl _ _) nq))
        have O8 := Lib.hid (own_below O7.out (below_draws (Below.refl _ _) nq))
        have XQ8 := Lib.hid (XP7.out.on (below_draws (Below.refl _ _) nq))
        have XA8 := Lib.hid (XA7.out.on (below_draws (Below.refl _ _) nq))
        clear c0 c1 c2 c3 c4 cl d1 m0 m0' K7 O7 XP7 XA7
        generalize World.drewN _ nq = w8 at K8 O8 XQ8 XA8 ⊢
        obtain ⟨m0, m0'⟩ := XA8.out.at2
        have d1 := (K8.out.nb.cell Z).trans HNx.out
        have f1 := K8.out.nb.frozen Z
        have hc := pgrown_cell w8 ⟨bn, Z, none⟩ (.int .i64 (x + 1))
        obtain ⟨e0, e1, e2, e3, el⟩ := (XQ8.out.grown hc (XQ8.out.ne K8.out.nb (by decide))).pool
        have XB9 := Lib.hid (K8.out.bx.grown hc K8.out.ne)
        clear hc
        go_wp2_with (first
          | ((with_reducible refine wpList_pool_store (o := ⟨none, .store _ _ _, _, _, _, _⟩) rfl _ _ rfl _ (some ⟨g6, 0, none⟩) A1 n n p6 c1' k0 k1 k2 h0 h1 h2 rfl rfl XB9.out ?_); intro w9 x9 hg9; have K9 := Lib.hid (K8.out.put O8.out G6.out.1 G6.out.2 (by rw [List.length_set]; exact K8.out.ln) HRq.out HEq.out x9 hg9); clear x9 hg9; obtain ⟨c0, c1, c2, c3, c4, cl⟩ := id K9.out.o.1; obtain ⟨b0, b1, b2, b3, bl⟩ := K9.out.bx.pool)
          | fail)
        have hrb := right_iff.2 K9.out.ri
        obtain ⟨z0, z1, z2⟩ := head_lt hrb HS.out
        have HRt := Lib.hid (pright_any conv soft seq size opn (some ⟨g6, 0, none⟩) n p6 _ _ _ _ w9 (by have := HN64.out; simp only [maxLen]; omega) K9.out.ln HS.out z0 z1 z2 K9.out.rd)
        rw [hrb] at HRt
        clear hrb z0 z1 z2
        refine HRt.out.mono ?_
        rintro e w10 ⟨rfl, hb⟩
        have K10 := Lib.hid (K9.out.on hb)
        clear hb K9
        go_wp2
        go_roundw
        case rel => exact ⟨k + 1, _, _, _, _, _, _, _, by omega, by go_num, K10.out⟩
        case measure => first | (simp [intOf]; done) | (simp [intOf]; omega)
end Go.Proofs.Ytnpnnejopibjcaa

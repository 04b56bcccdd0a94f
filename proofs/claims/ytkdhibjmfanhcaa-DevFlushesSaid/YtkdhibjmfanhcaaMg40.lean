/-
  ZoneB DfJ
-/
import Derived.Test.YtkdhibjmfanhcaaMg39
import Derived.Test.YtkdhibjmfanhcaaMg34
import Derived.Test.YtkdhibjmfanhcaaMg35
/-
  The document's answer for what is asked: all ways; the walk of the law ZoneActs.
-/
namespace Go.Proofs.Ytkdhibjmfanhcaa
open Go.RowKit Geom Zone
set_option linter.unusedVariables false

theorem pow_take {L : List Z} {k : Nat} {z : Z} (h : L[k]? = some z) : zc ((L.map pow).take (k + 1)) = zc ((L.map pow).take k) ++ [.int .i64 (pow z).1, .int .i64 (pow z).2] := by
  rw [take_succ (z := pow z) (by rw [List.getElem?_map, h]; rfl), zc_append]
  rfl

set_option maxRecDepth 100000 in
set_option maxHeartbeats 2000000 in
theorem ract_power (conv soft seq size opn zone off : Int) (A : Option Addr) (n cap : Nat) (L : List Z) (w : World) (hm : n ≤ 1000) (hn : L.length = n) (h0 : 0 < n) (hr : Rd w w.heap.size A (zc L)) :
    Calls Try.prog 28 #[.agg #[.int .i64 conv, .int .i64 soft, .int .i64 seq, .int .i64 size, .int .i64 opn], .slice A n cap, .int .i64 6, .agg #[.int .i64 zone, .int .i64 off]] w fun e w' => GivesR A w w' e n (act conv soft seq size opn L 6 zone off) := by
  have H0 := Lib.hid (Two.new w conv soft seq size opn zone off 23 40)
  rw [act_6]
  have HN := Lib.hid hn
  clear hn
  go_enter Try.func28, Try.ntmps28
  go_wp2_with fail
  generalize World.alloc _ _ = w0 at H0 ⊢
  have R0 := Lib.hid (hr.one H0.out.one)
  clear hr
  go_loopw [10, 11] (fun v i wr => ∃ k : Nat, k ≤ n ∧ i = .int .i64 k ∧ wr.ownsRow w0.heap.size 53 2 v k (zc ((L.map pow).take k)) ∧ Below w0.heap.size w0 wr) (fun _ i _ => n - (intOf i).toNat)
  case atStart => exact ⟨0, by omega, rfl, World.ownsRow_nil _ _ _ _, Below.refl _ _⟩
  case round =>
    obtain ⟨k, hk, rfl, hown, hbl⟩ := hrel
    by_cases hkn : k < n
    · have hz := getD_of (L := L) (k := k) (d := (0, 0)) (by rw [HN.out]; exact hkn)
      obtain ⟨ad, rfl, _, e0, e1⟩ := (R0.out.below hbl).zone hz
      generalize L.getD k (0, 0) = z at *
      obtain ⟨s, p⟩ := z
      have HP := Lib.hid (pow_take hz)
      have hbl := Lib.hid hbl
      have hown := Lib.hid hown
      clear hz
      dsimp only at e0 e1
      by_cases h1 : s = 1
      · subst h1
        by_cases h2 : p = 0
        · subst h2
          have HE := Lib.hid (show pow (1, 0) = (0, 0) from rfl)
          rw [HE.out] at HP
          go_wp2_with (at_builtin; refine wpList_append_new _ rfl _ _ _ rfl w0.heap.size 53 _ 2 16 elemZ u10 k _ rfl [.int .i64 0, .int .i64 0] (by simp; rfl) (hown.out.alloc _) rfl (fun u hu => zc_one (L := [(0, 0)]) hu) (by simp only [maxLen]; omega) (by omega) (by have := hbl.out.size; simp; omega) ?_; intro v1 w1 hown1 hg1; have Hown1 := Lib.hid hown1; have Hg1 := Lib.hid ((hbl.out.alloc hbl.out.size _).grown hg1 (by have := hbl.out.size; simp; omega) (fun g hg => (hown.out.lt g hg).1)); clear hown1 hg1)
          go_roundw
          case rel => exact ⟨k + 1, by omega, by go_num, by rw [HP.out]; exact Hown1.out, Hg1.out⟩
          case measure => simp [intOf]; omega
        · have hd : (p == 0) = false := by simpa using h2
          have HE := Lib.hid (show pow (1, p) = (2, p) by unfold pow rest; rw [if_pos rfl, if_neg h2])
          rw [HE.out] at HP
          go_wp2_with (at_builtin; refine wpList_append_new _ rfl _ _ _ rfl w0.heap.size 53 _ 2 16 elemZ u10 k _ rfl [.int .i64 2, .int .i64 p] (by simp; rfl) (hown.out.alloc _) rfl (fun u hu => zc_one (L := [(2, p)]) hu) (by simp only [maxLen]; omega) (by omega) (by have := hbl.out.size; simp; omega) ?_; intro v1 w1 hown1 hg1; have Hown1 := Lib.hid hown1; have Hg1 := Lib.hid ((hbl.out.alloc hbl.out.size _).grown hg1 (by have := hbl.out.size; simp; omega) (fun g hg => (hown.out.lt g hg).1)); clear hown1 hg1)
          go_roundw
          case rel => exact ⟨k + 1, by omega, by go_num, by rw [HP.out]; exact Hown1.out, Hg1.out⟩
          case measure => simp [intOf]; omega
      · have hd : (s == 1) = false := by simpa using h1
        have HE := Lib.hid (show pow (s, p) = (s, p) from if_neg h1)
        rw [HE.out] at HP
        go_wp2_with (at_builtin; refine wpList_append_new _ rfl _ _ _ rfl w0.heap.size 53 _ 2 16 elemZ u10 k _ rfl [.int .i64 s, .int .i64 p] (by simp; rfl) (hown.out.alloc _) rfl (fun u hu => zc_one (L := [(s, p)]) hu) (by simp only [maxLen]; omega) (by omega) (by have := hbl.out.size; simp; omega) ?_; intro v1 w1 hown1 hg1; have Hown1 := Lib.hid hown1; have Hg1 := Lib.hid ((hbl.out.alloc hbl.out.size _).grown hg1 (by have := hbl.out.size; simp; omega) (fun g hg => (hown.out.lt g hg).1)); clear hown1 hg1)
        go_roundw
        case rel => exact ⟨k + 1, by omega, by go_num, by rw [HP.out]; exact Hown1.out, Hg1.out⟩
        case measure => simp [intOf]; omega
    · obtain rfl : n = k := by omega
      rw [List.take_of_length_le (by rw [List.length_map, HN.out]; exact Nat.le_refl _)] at hown
      obtain ⟨A', c', hv⟩ := own_slice hown
      subst hv
      have RW := Lib.hid (Rd.own hown)
      have PW := Lib.hid (prov_own hown H0.out.one.2.size)
      have BW := Lib.hid (bthen H0.out.one.2 hbl)
      clear hown
      go_wp2
      go_ret2
      exact ⟨A', c', rfl, RW.out, BW.out, .inr PW.out⟩

theorem ract_any (conv soft seq size opn zone off : Int) (A : Option Addr) (n cap : Nat) (L : List Z) (w : World) (hm : n ≤ 1000) (hn : L.length = n) (hok : Ok conv soft seq size opn) (hfit : Fit conv seq size opn L) (hr : Rd w w.heap.size A (zc L)) (k : Int) (hk : 0 ≤ k ∧ k < 7) :
    Calls Try.prog 28 #[.agg #[.int .i64 conv, .int .i64 soft, .int .i64 seq, .int .i64 size, .int .i64 opn], .slice A n cap, .int .i64 k, .agg #[.int .i64 zone, .int .i64 off]] w fun e w' => GivesR A w w' e n (act conv soft seq size opn L k zone off) := by
  have hns : (n : Int) = conv + seq := by rw [← hn]; exact hfit.1
  have hcv := hok.1
  have hsq := hok.2.1
  by_cases h6 : k = 6
  · subst h6
    exact ract_power conv soft seq size opn zone off A n cap L w hm hn (by omega) hr
  by_cases hh : hasB conv seq zone = true
  rotate_left
  · exact ract_none conv soft seq size opn zone off A n cap L w hok hr k (by omega) (by simpa using hh)
  by_cases hi : (k = 0 ∨ k = 1) ∧ inB conv soft seq size zone off = false
  · exact ract_out conv soft seq size opn zone off A n cap L w hok hr k hi.1 hh hi.2
  obtain ⟨z0, z1⟩ := has_in hh
  obtain ⟨j, rfl⟩ : ∃ j : Nat, zone = (j : Int) := ⟨zone.toNat, by omega⟩
  have hj : j < n := by omega
  obtain ⟨s, p, hz⟩ : ∃ s p, L[j]? = some (s, p) := ⟨(L.getD j (0, 0)).1, (L.getD j (0, 0)).2, getD_of (by omega)⟩
  have hi0 : k = 0 ∨ k = 1 → inB conv soft seq size j off = true := by
    intro h
    cases hb : inB conv soft seq size j off
    · exact absurd ⟨h, hb⟩ hi
    · rfl
  by_cases hc : (j : Int) < conv
  · rcases (show k = 0 ∨ k = 1 ∨ k = 2 ∨ k = 3 ∨ k = 4 ∨ k = 5 by omega) with rfl | rfl | rfl | rfl | rfl | rfl
    · exact ract_soft0 conv soft seq size opn off j A n cap L w hm hn hok hfit hns hj hr s p hz hc (hi0 (.inl rfl))
    · exact ract_soft1 conv soft seq size opn off j A n cap L w hm hn hok hfit hns hj hr s p hz hc (hi0 (.inr rfl))
    · exact ract_soft2 conv soft seq size opn off j A n cap L w hm hn hok hfit hns hj hr s p hz hc
    · exact ract_soft3 conv soft seq size opn off j A n cap L w hm hn hok hfit hns hj hr s p hz hc
    · exact ract_soft4 conv soft seq size opn off j A n cap L w hm hn hok hfit hns hj hr s p hz hc
    · exact ract_soft5 conv soft seq size opn off j A n cap L w hm hn hok hfit hns hj hr s p hz hc
  have hc : conv ≤ (j : Int) := by omega
  rcases (show k = 0 ∨ k = 1 ∨ k = 2 ∨ k = 3 ∨ k = 4 ∨ k = 5 by omega) with rfl | rfl | rfl | rfl | rfl | rfl
  · have hi := hi0 (.inl rfl)
    by_cases h1 : s = 3
    · exact ract_write_full conv soft seq size opn off j A n cap L w hm hn hok hfit hns hj hr s p hz hc hi h1
    by_cases h4 : off = p
    rotate_left
    · exact ract_write_far conv soft seq size opn off j A n cap L w hm hn hok hfit hns hj hr s p hz hc hi h1 h4
    by_cases h2 : s = 1
    · by_cases h6 : off + 1 = size
      · exact ract_write_1_end conv soft seq size opn off j A n cap L w hm hn hok hfit hns hj hr s p hz hc hi h2 h4 h6
      · exact ract_write_1_go conv soft seq size opn off j A n cap L w hm hn hok hfit hns hj hr s p hz hc hi h2 h4 h6
    by_cases h3 : opn ≤ (cnt L : Int)
    · exact ract_write_many conv soft seq size opn off j A n cap L w hm hn hok hfit hns hj hr s p hz hc hi h1 h4 h2 h3
    by_cases h6 : off + 1 = size
    · exact ract_write_0_end conv soft seq size opn off j A n cap L w hm hn hok hfit hns hj hr s p hz hc hi h1 h4 h2 h3 h6
    · exact ract_write_0_go conv soft seq size opn off j A n cap L w hm hn hok hfit hns hj hr s p hz hc hi h1 h4 h2 h3 h6
  · have hi := hi0 (.inr rfl)
    by_cases hp : off < p
    · exact ract_read_yes conv soft seq size opn off j A n cap L w hm hn hok hfit hns hj hr s p hz hc hi hp
    · exact ract_read_no conv soft seq size opn off j A n cap L w hm hn hok hfit hns hj hr s p hz hc hi hp
  · exact ract_reset conv soft seq size opn off j A n cap L w hm hn hok hfit hns hj hr s p hz hc
  · by_cases h1 : s = 3
    · exact ract_finish_no conv soft seq size opn off j A n cap L w hm hn hok hfit hns hj hr s p hz hc h1
    · exact ract_finish conv soft seq size opn off j A n cap L w hm hn hok hfit hns hj hr s p hz hc h1
  · by_cases h1 : s = 3
    · exact ract_open_no conv soft seq size opn off j A n cap L w hm hn hok hfit hns hj hr s p hz hc h1
    by_cases h2 : s = 1
    · exact ract_open_1 conv soft seq size opn off j A n cap L w hm hn hok hfit hns hj hr s p hz hc h2
    by_cases h3 : opn ≤ (cnt L : Int)
    · exact ract_open_full conv soft seq size opn off j A n cap L w hm hn hok hfit hns hj hr s p hz hc h1 h2 h3
    · exact ract_open_go conv soft seq size opn off j A n cap L w hm hn hok hfit hns hj hr s p hz hc h1 h2 h3
  · by_cases h1 : s = 1
    · by_cases h2 : p = 0
      · exact ract_close_0 conv soft seq size opn off j A n cap L w hm hn hok hfit hns hj hr s p hz hc h1 h2
      · exact ract_close_1 conv soft seq size opn off j A n cap L w hm hn hok hfit hns hj hr s p hz hc h1 h2
    · exact ract_close_no conv soft seq size opn off j A n cap L w hm hn hok hfit hns hj hr s p hz hc h1
end Go.Proofs.Ytkdhibjmfanhcaa

/-
  The document's answers for layer 5: Do: what comes of an act, plainly; what stands in memory.
-/
namespace Go.Proofs.Ytkdhibjmfanhcaa
open Go.RowKit Geom Zone Dev
set_option linter.unusedVariables false

namespace Dev
/-- what comes of an act -/
def doK (conv soft seq size opn : Int) (d : Dk) (x : AD) : Dk :=
  if x.k % 9 = 4 then (resetK conv soft seq size opn d x.a).1 else if x.k % 9 = 5 then (finishK conv soft seq size opn d x.a).1 else if x.k % 9 = 6 then (flushK d).1 else if x.k % 9 = 7 then armK d x.n
  else if x.k % 9 = 8 then crashK conv size x.keep x.soft0 x.tear d else (writeK conv soft seq size opn d (x.a.1, x.a.2, x.p)).1
theorem out_only_length (z : Int) : ∀ l : List Wr, (outK l z).length + (onlyK l z).length = l.length
  | [] => rfl
  | c :: l => by
    have ih := out_only_length z l
    unfold outK onlyK at *
    by_cases h : c.1 = z
    · simp [h] at *; omega
    · simp [h] at *; omega
theorem tickK_yes {d : Dk} (h : d.armed = true) : tickK d = { d with left := d.left - 1, down := d.left - 1 == 0 } := if_pos h
theorem tickK_no {d : Dk} (h : d.armed = false) : tickK d = d := if_neg (by rw [h]; simp)
theorem resetK_go {conv soft seq size opn : Int} {d : Dk} {a : Pl} {L1 : List Z} (hdn : d.down = false) (h : act conv soft seq size opn d.L 2 a.1 a.2 = (L1, 0)) :
    (resetK conv soft seq size opn d a).1 = tickK { d with L := L1, safe := outK d.safe a.1, cached := outK d.cached a.1, done := d.done.filter fun y => y != a.1 } := by
  unfold resetK
  rw [if_neg (by rw [hdn]; simp), h, if_neg (by simp)]
theorem finishK_go {conv soft seq size opn : Int} {d : Dk} {a : Pl} {L1 : List Z} (hdn : d.down = false) (h : act conv soft seq size opn d.L 3 a.1 a.2 = (L1, 0)) :
    (finishK conv soft seq size opn d a).1 = tickK { d with L := L1, safe := d.safe ++ onlyK d.cached a.1, cached := outK d.cached a.1, done := d.done ++ [a.1] } := by
  unfold finishK
  rw [if_neg (by rw [hdn]; simp), h, if_neg (by simp)]
end Dev

/-- blocks of Q that were there, and blocks made since, behind the three variables -/
def VV (Q : Nat → Prop) (w : World) (k : Nat) : Prop := (Q k ∧ k < w.heap.size) ∨ w.heap.size + 3 ≤ k
section
variable {N M : Nat} {conv soft seq size opn : Int} {Q U : Nat → Prop} {w w' W W' : World} {v u : KV} {d : Dk} {x : AD}
theorem DkIs.kept (h : DkIs N conv soft seq size opn Q w v d) (hU : ∀ k, k < w.heap.size → Q k → U k) (hs : w.heap.size ≤ w'.heap.size) (hk : ∀ k, k < w.heap.size → Q k → w'.heap[k]? = w.heap[k]?) : DkIs N conv soft seq size opn U w' v d := by
  obtain ⟨h1, ⟨A, n, c, hz, h2, h3, h4⟩, ⟨A1, n1, c1, hd, h5, h6, h7⟩, ⟨A2, n2, c2, hs2, h8, h9, h10⟩, ⟨A3, n3, c3, hc, h11, h12, h13⟩, h14, h15⟩ := h
  exact ⟨h1, ⟨A, n, c, hz, h2, h3, h4.kept hU hs hk⟩, ⟨A1, n1, c1, hd, h5, h6, h7.kept hU hs hk⟩, ⟨A2, n2, c2, hs2, h8, h9, h10.kept hU hs hk⟩, ⟨A3, n3, c3, hc, h11, h12, h13.kept hU hs hk⟩, h14, h15⟩
/-- other bounds -/
theorem DkIs.cut (h : DkIs N conv soft seq size opn Q w v d) (h1 : d.done.length ≤ M) (h2 : d.safe.length + d.cached.length ≤ M) (h3 : d.ill ≤ M) : DkIs M conv soft seq size opn Q w v d := by
  obtain ⟨g1, g2, ⟨A1, n1, c1, hd, h5, h6, h7⟩, g4, g5, g6, g7⟩ := h
  exact ⟨g1, g2, ⟨A1, n1, c1, hd, h5, by omega, h7⟩, g4, g5, h2, g7.1, g7.2.1, g7.2.2.1, g7.2.2.2.1, g7.2.2.2.2.1, h3⟩
/-- the disk's cells told -/
theorem DkIs.form (h : DkIs N conv soft seq size opn Q w v d) : ∃ Az nz cz Ad nd cd As ns cs Ac nc cc, v = ⟨conv, soft, seq, size, opn, .slice Az nz cz, .slice Ad nd cd, .slice As ns cs, .slice Ac nc cc, d.armed, d.left, d.down, d.ill⟩ ∧
    (d.L.length = nz ∧ (nz : Int) = conv + seq) ∧ (d.done.length = nd ∧ nd ≤ N) ∧ d.safe.length = ns ∧ d.cached.length = nc ∧ ns + nc ≤ N ∧ 0 ≤ d.ill ∧ d.ill ≤ N := by
  obtain ⟨⟨a0, a1, a2, a3, a4⟩, ⟨A, n, c, hz, h2, h3, h4⟩, ⟨A1, n1, c1, hd, h5, h6, h7⟩, ⟨A2, n2, c2, hs2, h8, h9, h10⟩, ⟨A3, n3, c3, hc, h11, h12, h13⟩, h14, b1, b2, b3, b4, b5, b6⟩ := h
  refine ⟨A, n, c, A1, n1, c1, A2, n2, c2, A3, n3, c3, ?_, ⟨h2, h3⟩, ⟨h5, h6⟩, h8, h11, by omega, b5, b6⟩
  cases v
  simp only at *
  subst a0 a1 a2 a3 a4 hz hd hs2 hc b1 b2 b3 b4
  rfl
theorem DkIs.srow {A : Option Addr} {n c : Nat} (h : DkIs N conv soft seq size opn Q w v d) (hu : v.sv = .slice A n c) : d.safe.length = n ∧ WOk d.safe ∧ RowQ Q w A (wcs d.safe) := by
  obtain ⟨_, _, _, hv, h1, h2, h3⟩ := h.fs
  rw [hu] at hv
  injection hv with e1 e2 e3
  subst e1 e2
  exact ⟨h1, h2, h3⟩
theorem DkIs.crow {A : Option Addr} {n c : Nat} (h : DkIs N conv soft seq size opn Q w v d) (hu : v.cv = .slice A n c) : d.cached.length = n ∧ WOk d.cached ∧ RowQ Q w A (wcs d.cached) := by
  obtain ⟨_, _, _, hv, h1, h2, h3⟩ := h.fc
  rw [hu] at hv
  injection hv with e1 e2 e3
  subst e1 e2
  exact ⟨h1, h2, h3⟩
theorem DkIs.zrow {A : Option Addr} {n c : Nat} (h : DkIs N conv soft seq size opn Q w v d) (hu : v.zv = .slice A n c) : d.L.length = n ∧ (n : Int) = conv + seq ∧ RdQ Q w A (zc d.L) := by
  obtain ⟨_, _, _, hv, h1, h2, h3⟩ := h.fz
  rw [hu] at hv
  injection hv with e1 e2 e3
  subst e1 e2
  exact ⟨h1, h2, h3⟩
theorem DkIs.drow {A : Option Addr} {n c : Nat} (h : DkIs N conv soft seq size opn Q w v d) (hu : v.dv = .slice A n c) : d.done.length = n ∧ n ≤ N ∧ RdQ Q w A (ints d.done) := by
  obtain ⟨_, _, _, hv, h1, h2, h3⟩ := h.fd
  rw [hu] at hv
  injection hv with e1 e2 e3
  subst e1 e2
  exact ⟨h1, h2, h3⟩
theorem RowQ.on0 {A : Option Addr} {xs : List Value} (h : RowQ Q w A xs) (hb : Below w.heap.size w w') : RowQ Q w' A xs := h.on hb
/-- what stands in memory while Do works: the disk, the act, the answer's variable -/
structure DoX (N : Nat) (conv soft seq size opn : Int) (Q : Nat → Prop) (w W : World) (x : AD) (u : KV) (d : Dk) : Prop where
  kx : Box W w.heap.size 36 (kcs u)
  ax : Box W (w.heap.size + 1) 44 (acs x)
  rx : Box W (w.heap.size + 1 + 1) 36 (kcs kd0)
  bl : Below w.heap.size w W
  sz : w.heap.size + 3 ≤ W.heap.size
  is : DkIs N conv soft seq size opn (VV Q w) W u d
theorem DoX.on (h : DoX N conv soft seq size opn Q w W x u d) (hb : Below W.heap.size W W') : DoX N conv soft seq size opn Q w W' x u d :=
  ⟨h.kx.on hb, h.ax.on hb, h.rx.on hb, bthen h.bl hb, Nat.le_trans h.sz hb.size, h.is.on hb⟩
theorem DoX.start {w1 w2 w3 : World} (hI : DkIs N conv soft seq size opn Q w u d) (hNM : N ≤ M) (x0 : Box w1 w.heap.size 36 (kcs u)) (hB1 : Below w.heap.size w w1) (hs1 : w1.heap.size = w.heap.size + 1)
    (x1 : Box w2 w1.heap.size 44 (acs x)) (hB2 : Below w1.heap.size w1 w2) (hs2 : w2.heap.size = w1.heap.size + 1) (x2 : Box w3 w2.heap.size 36 (kcs kd0)) (hB3 : Below w2.heap.size w2 w3) (hs3 : w3.heap.size = w2.heap.size + 1) :
    DoX M conv soft seq size opn Q w w3 x u d := by
  rw [hs2, hs1] at x2
  rw [hs1] at x1
  have hb : Below w.heap.size w w3 := bthen (bthen hB1 hB2) hB3
  have hf := hI.form
  obtain ⟨_, _, _, _, _, _, _, _, _, _, _, _, _, _, ⟨h1, h2⟩, h3, h4, h5, h6, h7⟩ := hf
  exact ⟨(x0.below hB2 (by omega)).below hB3 (by omega), x1.below hB3 (by omega), x2, hb, by omega, (hI.cut (by omega) (by omega) (by omega)).kept (fun k hk hq => .inl ⟨hq, hk⟩) hb.size fun k hk _ => hb.block k hk⟩
/-- a field is laid -/
theorem DoX.put (h : DoX N conv soft seq size opn Q w W x u d) (i : Nat) (a : Value) (u' : KV) (d' : Dk) (hset : (kcs u).set i a = kcs u') (his : DkIs N conv soft seq size opn (VV Q w) W u' d') : DoX N conv soft seq size opn Q w (W.setCell ⟨w.heap.size, i, none⟩ a) x u' d' := by
  have e : ∀ b, b ≠ w.heap.size → (W.setCell ⟨w.heap.size, i, none⟩ a).heap[b]? = W.heap[b]? := fun b hb => heap_setCell_other _ _ _ _ hb
  have hg : W.grownBy (W.setCell ⟨w.heap.size, i, none⟩ a) (some w.heap.size) := grown_setCell W ⟨w.heap.size, i, none⟩ a
  refine ⟨?_, h.ax.same (e _ (by omega)), h.rx.same (e _ (by omega)), below_stored h.bl hg h.bl.size (Nat.le_refl _), by have := hg.size; have := h.sz; omega, his.kept (fun _ _ hq => hq) hg.size fun k _ hq => e k ?_⟩
  · rw [← hset]
    exact h.kx.set i a
  · rcases hq with ⟨_, hq⟩ | hq <;> omega
/-- the answer is laid -/
theorem DoX.done {W9 : World} (h : DoX N conv soft seq size opn Q w W x u d) (hg : W.grownBy W9 (some (w.heap.size + 1 + 1))) (h1 : d.done.length ≤ M) (h2 : d.safe.length + d.cached.length ≤ M) (h3 : d.ill ≤ M) :
    DkIs M conv soft seq size opn (fun k => Q k ∨ w.heap.size ≤ k) W9 u d ∧ Below w.heap.size w W9 := by
  have hb := below_stored h.bl hg h.bl.size (show w.heap.size ≤ w.heap.size + 1 + 1 by omega)
  refine ⟨(h.is.cut h1 h2 h3).kept (fun k _ hq => ?_) hg.size fun k hk hq => hg.block k hk fun e => ?_, hb⟩
  · rcases hq with ⟨hq, _⟩ | hq
    · exact .inl hq
    · exact .inr (by omega)
  · injection e with e
    rcases hq with ⟨_, hq⟩ | hq <;> omega
/-- a row that an act of zones answers -/
theorem RdQ.gives {A A' : Option Addr} {xs ys : List Value} {B : Nat} (h : RdQ Q w A xs) (hne : xs ≠ []) (hr : Rd w' w'.heap.size A' ys) (hp : A' = A ∨ ∀ ad, A' = some ad → B ≤ ad.block) (hQ : ∀ k, B ≤ k → Q k) : RdQ Q w' A' ys := fun hn => by
  obtain ⟨ad, e, hb, hc⟩ := hr hn
  refine ⟨ad, e, ?_, hb, hc⟩
  rcases hp with hp | hp
  · obtain ⟨ad2, e2, hq, _⟩ := h hne
    rw [← hp, e] at e2
    injection e2 with e2
    rw [e2]
    exact hq
  · exact hQ _ (hp _ e)
theorem VV.far (hB : w.heap.size + 3 ≤ N) : ∀ k, N ≤ k → VV Q w k := fun k hk => .inr (by omega)
end
theorem ints_snoc (l : List Int) (z : Int) : ints (l ++ [z]) = ints l ++ [.int .i64 z] := by simp [ints]
theorem kc5 (u : KV) : (kcs u)[5]? = some u.zv := rfl
theorem kc6 (u : KV) : (kcs u)[6]? = some u.dv := rfl
theorem kc7 (u : KV) : (kcs u)[7]? = some u.sv := rfl
theorem kc8 (u : KV) : (kcs u)[8]? = some u.cv := rfl
theorem kc9 (u : KV) : (kcs u)[9]? = some (.bool u.armed) := rfl
theorem kc10 (u : KV) : (kcs u)[10]? = some (.int .i64 u.left) := rfl
theorem kc11 (u : KV) : (kcs u)[11]? = some (.bool u.down) := rfl
theorem kc12 (u : KV) : (kcs u)[12]? = some (.int .i64 u.ill) := rfl
theorem size_rints (w : World) : (sizeOf 25).run Try.prog w = .ok 1 w := by go_simp
theorem size_bool (w : World) : (sizeOf 4).run Try.prog w = .ok 1 w := by go_simp
section
variable {P : Program} {w : World} {ops : Array Oper} {rest : List Oper} {o : Oper} {a : Act} {Q : Exit → Act → World → Prop}
theorem wpList_box_bool (hgd : o.guard = none) (t : TypeId) (x y : Operand) (ho : o.op = .store t x y) (g i : Nat) (T : TypeId) (cs : List Value) (n : Bool) (old : Value) (hx : a.eval x = .pointer (some ⟨g, i, none⟩)) (hy : a.eval y = .bool n) (hb : Box w g T cs) (hc : cs[i]? = some old) (hsz : ∀ w, (sizeOf t).run P w = .ok 1 w)
    (h : ∀ w', w' = w.setCell ⟨g, i, none⟩ (.bool n) → wpList P ops Q rest (a.put o.dst undef) w') : wpList P ops Q (o :: rest) a w := by
  have hcell := (hb.cell i).trans hc
  have hf := hb.frozen i
  have h' := h _ rfl
  refine wpList_plain hgd fun K hK => ?_
  have hk := hK _ _ h'
  clear hK h h'
  unfold Oper.wp execOp
  simp only [ho, hx, hy]
  go_simp
  exact hk
end
theorem acs_0 (x : AD) : (acs x)[0]? = some (.int .u8 x.k) := rfl
theorem acs_1 (x : AD) : (acs x)[1]? = some (.int .i64 x.a.1) := rfl
theorem acs_2 (x : AD) : (acs x)[2]? = some (.int .i64 x.a.2) := rfl
section
variable {w : World} {b : Nat} {T : TypeId} {x : AD}
theorem Box.act (h : Box w b T (acs x)) (hp : x.p.length = 64) : w.cell? ⟨b, 0, none⟩ = some (.int .u8 x.k) ∧ w.cell? ⟨b, 1, none⟩ = some (.int .i64 x.a.1) ∧ w.cell? ⟨b, 2, none⟩ = some (.int .i64 x.a.2) ∧ w.cell? ⟨b, 67, none⟩ = some (.int .i64 x.n) ∧
    w.cell? ⟨b, 68, none⟩ = some (.slice x.keepA x.kn x.kc) ∧ w.cell? ⟨b, 69, none⟩ = some (.int .u64 x.soft0) ∧ w.cell? ⟨b, 70, none⟩ = some (.int .i64 x.tear) :=
  ⟨h.cell 0, h.cell 1, h.cell 2, (h.cell 67).trans (acs_tail (j := 0) hp), (h.cell 68).trans (acs_tail (j := 1) hp), (h.cell 69).trans (acs_tail (j := 2) hp), (h.cell 70).trans (acs_tail (j := 3) hp)⟩
theorem Box.actPage (h : Box w b T (acs x)) (hp : x.p.length = 64) : w.rangeAt b 3 (bs x.p) := h.range 3 _ fun j v hj => by
  rw [Nat.add_comm]
  exact acs_page hp hj
theorem wpList_act_box {ops : Array Oper} {rest : List Oper} {o : Oper} {a : Act} {Q : Exit → Act → World → Prop} (hgd : o.guard = none) (y : Operand) (ho : o.op = .box 44 y) (r : AD) (hx : a.eval y = .agg (acs r).toArray)
    (h : ∀ w', Box w' w.heap.size 44 (acs r) → Below w.heap.size w w' → w'.heap.size = w.heap.size + 1 → wpList Try.prog ops Q rest (a.put o.dst (.pointer (some ⟨w.heap.size, 0, none⟩))) w') : wpList Try.prog ops Q (o :: rest) a w :=
  wpList_box_box w hgd _ y ho (acs r) hx h
end
/-- one cell in a block of its own -/
theorem row_one (w : World) (c : Wr) : Row (w.alloc (.cells (wc c).toArray 74)) (w.alloc (.cells (wc c).toArray 74)).heap.size (some ⟨w.heap.size, 0, none⟩) (wcs [c]) := fun _ => by
  refine ⟨w.heap.size, rfl, by simp, ?_⟩
  rw [wcs_one]
  exact (Box.new w 74 (wc c)).range0
end Go.Proofs.Ytkdhibjmfanhcaa

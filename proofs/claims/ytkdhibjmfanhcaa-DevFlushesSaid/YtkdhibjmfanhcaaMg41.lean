/-
  DfS
-/
import Derived.Test.YtkdhibjmfanhcaaMg40
import Derived.Test.YtkdhibjmfanhcaaMg30
import Derived.Test.YtkdhibjmfanhcaaMg35
/-
  The device and the answer's disk, side by side.
-/
namespace Go.Proofs.Ytkdhibjmfanhcaa
open Go.RowKit Geom Zone Dev
set_option linter.unusedVariables false
namespace Dev
/-- the measure stays -/
def Geo5 (D E : Dv) : Prop := E.conv = D.conv ∧ E.soft = D.soft ∧ E.seq = D.seq ∧ E.size = D.size ∧ E.opn = D.opn
theorem Geo5.rf (D : Dv) : Geo5 D D := ⟨rfl, rfl, rfl, rfl, rfl⟩
theorem Geo5.tr {D E F : Dv} (h : Geo5 D E) (h2 : Geo5 E F) : Geo5 D F := ⟨h2.1.trans h.1, h2.2.1.trans h.2.1, h2.2.2.1.trans h.2.2.1, h2.2.2.2.1.trans h.2.2.2.1, h2.2.2.2.2.trans h.2.2.2.2⟩
theorem tick_geo5 (D : Dv) : Geo5 D (tick D) := by unfold tick; split <;> exact ⟨rfl, rfl, rfl, rfl, rfl⟩
theorem write_geo5 (D : Dv) (c : Wr) : Geo5 D (writeD D c).2 := by
  unfold writeD
  split
  · exact Geo5.rf _
  · split
    · exact ⟨rfl, rfl, rfl, rfl, rfl⟩
    · exact Geo5.tr ⟨rfl, rfl, rfl, rfl, rfl⟩ (tick_geo5 _)
theorem flush_geo5 (D : Dv) : Geo5 D (flushD D).2 := by
  unfold flushD
  split
  · exact Geo5.rf _
  · exact Geo5.tr ⟨rfl, rfl, rfl, rfl, rfl⟩ (tick_geo5 _)
theorem arm_geo5 (D : Dv) (n : Int) : Geo5 D (armD D n) := by unfold armD; split <;> exact ⟨rfl, rfl, rfl, rfl, rfl⟩
theorem finish_geo5 (D : Dv) (z : Int) : Geo5 D (finishD D z).2 := by
  unfold finishD
  split
  · exact Geo5.rf _
  · split
    · exact ⟨rfl, rfl, rfl, rfl, rfl⟩
    · exact Geo5.tr ⟨rfl, rfl, rfl, rfl, rfl⟩ (tick_geo5 _)
theorem reset_geo5 (D : Dv) (z : Int) : Geo5 D (resetD D z).2 := by
  unfold resetD
  split
  · exact Geo5.rf _
  · split
    · exact ⟨rfl, rfl, rfl, rfl, rfl⟩
    · exact Geo5.tr ⟨rfl, rfl, rfl, rfl, rfl⟩ (tick_geo5 _)
theorem crash_geo5 (D : Dv) (keep : List Int) (s t : Int) : Geo5 D (crashD D keep s t) := ⟨rfl, rfl, rfl, rfl, rfl⟩
theorem play_geo5 (D : Dv) (x : AD) : Geo5 D (playD D x).2 := by
  unfold playD
  split
  · exact reset_geo5 _ _
  · split
    · exact finish_geo5 _ _
    · split
      · exact flush_geo5 _
      · split
        · exact arm_geo5 _ _
        · split
          · exact crash_geo5 _ _ _ _
          · exact write_geo5 _ _
/-- an act keeps the two alike -/
theorem sim_play {D : Dv} {d : Dk} (x : AD) (h : Sim D d) (hO : DvOk D) (hO2 : DvOk (playD D x).2) : Sim (playD D x).2 (doK D.conv D.soft D.seq D.size D.opn d x) := by
  unfold playD at hO2 ⊢
  unfold doK
  split
  · exact sim_reset h hO _
  · split
    · exact sim_finish h hO _
    · split
      · exact sim_flush h
      · split
        · exact sim_arm h _
        · split
          · rename_i h4 h5 h6 h7 h8
            rw [if_neg h4, if_neg h5, if_neg h6, if_neg h7, if_pos h8] at hO2
            exact sim_crash _ _ _ h hO hO2
          · exact sim_write h hO _
/-- what Do asks of the disk -/
theorem sim_asks {D : Dv} {d : Dk} (h : Sim D d) (hO : DvOk D) : Fit D.conv D.seq D.size D.opn d.L ∧ (∀ c ∈ d.cached, 0 ≤ c.1 ∧ c.1 < D.conv + D.seq) ∧ (d.down = false → d.armed = true → 0 < d.left ∧ d.left < 9223372036854775808) := by
  refine ⟨by rw [h.L]; exact hO.fit, fun c hc => ?_, fun hd ha => ?_⟩
  · rw [h.cache] at hc
    have := hO.place c hc
    have := hO.ns
    omega
  · rw [h.down] at hd
    rcases h.arm hd with ⟨_, h1, h2⟩ | ⟨h1, _⟩
    · have := hO.arm1
      omega
    · rw [h1] at ha
      cases ha
end Dev

theorem AIn.on {w W : World} {x : AD} (h : AIn w x) (hb : Below w.heap.size w W) : AIn W x := ⟨h.k0, h.k1, h.a1, h.a2, h.p, h.n, (h.kr.below hb).more hb.size, h.kl, h.cap, h.mc, h.k64, h.s0, h.t⟩
/-- the device in blocks of T, the answer's disk in blocks of U, apart, all made since B -/
structure Both (N : Nat) (conv soft seq size opn : Int) (B : Nat) (W : World) (b : Nat) (D : Dv) (v : KV) (d : Dk) (T U : Nat → Prop) : Prop where
  dev : DevIs T W b D
  dsk : DkIs N conv soft seq size opn U W v d
  bl : B ≤ W.heap.size
  tl : ∀ k, T k → k < W.heap.size ∧ B ≤ k
  ul : ∀ k, U k → k < W.heap.size ∧ B ≤ k
  ap : ∀ k, T k → ¬ U k
section
variable {N M B b : Nat} {conv soft seq size opn : Int} {W W' : World} {D D' : Dv} {v v' : KV} {d d' : Dk} {T U : Nat → Prop}
/-- the blocks that the device may have behind its next step -/
def TN (T : Nat → Prop) (W : World) (k : Nat) : Prop := T k ∨ W.heap.size ≤ k
theorem Both.open (h : Both N conv soft seq size opn B W b D v d T U) : DevIs (TN T W) W b D := h.dev.shrink fun k _ ht => .inl ht
theorem Both.far (h : Both N conv soft seq size opn B W b D v d T U) : ∀ k, TN T W k → B ≤ k := fun k hk => hk.elim (fun h2 => (h.tl k h2).2) fun h2 => Nat.le_trans h.bl h2
theorem Both.play (h : Both N conv soft seq size opn B W b D v d T U) (hI : DevIs (TN T W) W' b D') (hF : Fr (TN T W) W W') : Both N conv soft seq size opn B W' b D' v d (fun k => TN T W k ∧ k < W'.heap.size) U :=
  ⟨hI.shrink fun k hk ht => ⟨ht, hk⟩, h.dsk.kept (fun k _ hu => hu) hF.size fun k hk hu => hF.block k hk fun ht => ht.elim (fun ht => h.ap k ht hu) fun hs => by omega, Nat.le_trans h.bl hF.size,
    fun k hk => ⟨hk.2, h.far k hk.1⟩, fun k hk => ⟨Nat.lt_of_lt_of_le (h.ul k hk).1 hF.size, (h.ul k hk).2⟩, fun k hk hu => hk.1.elim (fun ht => h.ap k ht hu) fun hs => by have := (h.ul k hu).1; omega⟩
theorem Both.act (h : Both N conv soft seq size opn B W b D v d T U) (hI : DkIs M conv soft seq size opn (fun k => U k ∨ W.heap.size ≤ k) W' v' d') (hb : Below W.heap.size W W') :
    Both M conv soft seq size opn B W' b D v' d' T (fun k => (U k ∨ W.heap.size ≤ k) ∧ k < W'.heap.size) :=
  ⟨h.dev.below hb, hI.kept (fun k hk hu => ⟨hu, hk⟩) (Nat.le_refl _) fun _ _ _ => rfl, Nat.le_trans h.bl hb.size, fun k hk => ⟨Nat.lt_of_lt_of_le (h.tl k hk).1 hb.size, (h.tl k hk).2⟩,
    fun k hk => ⟨hk.2, hk.1.elim (fun hu => (h.ul k hu).2) fun hs => Nat.le_trans h.bl hs⟩, fun k ht hu => hu.1.elim (fun hu => h.ap k ht hu) fun hs => by have := (h.tl k ht).1; omega⟩
theorem Both.on (h : Both N conv soft seq size opn B W b D v d T U) (hb : Below W.heap.size W W') : Both N conv soft seq size opn B W' b D v d T U :=
  ⟨h.dev.below hb, h.dsk.on hb, Nat.le_trans h.bl hb.size, fun k hk => ⟨Nat.lt_of_lt_of_le (h.tl k hk).1 hb.size, (h.tl k hk).2⟩, fun k hk => ⟨Nat.lt_of_lt_of_le (h.ul k hk).1 hb.size, (h.ul k hk).2⟩, h.ap⟩
theorem Both.start {w W1 W2 : World} (hB : B ≤ w.heap.size) (hI : DevIs (fun k => w.heap.size ≤ k) W1 b D) (hb : Below w.heap.size w W1) (hK : DkIs N conv soft seq size opn (fun k => W1.heap.size ≤ k) W2 v d) (hb2 : Below W1.heap.size W1 W2) :
    Both N conv soft seq size opn B W2 b D v d (fun k => w.heap.size ≤ k ∧ k < W1.heap.size) (fun k => W1.heap.size ≤ k ∧ k < W2.heap.size) := by
  have h1 := hb.size
  have h2 := hb2.size
  exact ⟨(hI.shrink fun k hk hw => ⟨hw, hk⟩).below hb2, hK.kept (fun k hk hu => ⟨hu, hk⟩) (Nat.le_refl _) fun _ _ _ => rfl, by omega, fun k hk => by omega, fun k hk => by omega, fun k hk hu => by omega⟩
end

/-- the measure, and the wreck, in variables of their own -/
def LfIn (w W : World) (gs ws : List Value) : Prop := Box W w.heap.size 23 gs ∧ Box W (w.heap.size + 1) 28 ws ∧ Below w.heap.size w W ∧ w.heap.size + 2 ≤ W.heap.size
theorem LfIn.on {w W W' : World} {gs ws : List Value} (h : LfIn w W gs ws) (hb : Below W.heap.size W W') : LfIn w W' gs ws := ⟨h.1.on hb, h.2.1.on hb, bthen h.2.2.1 hb, Nat.le_trans h.2.2.2 hb.size⟩
theorem LfIn.fr {w W W' : World} {gs ws : List Value} {T : Nat → Prop} (h : LfIn w W gs ws) (hT : ∀ k, T k → w.heap.size + 2 ≤ k) (hF : Fr T W W') : LfIn w W' gs ws :=
  ⟨h.1.same (hF.same h.1.lt fun ht => by have := hT _ ht; omega), h.2.1.same (hF.same h.2.1.lt fun ht => by have := hT _ ht; omega), h.2.2.1.trans (hF.below h.2.2.1.size fun k hk ht => by have := hT _ ht; omega), Nat.le_trans h.2.2.2 hF.size⟩
theorem LfIn.start {w w1 w2 : World} {gs ws : List Value} (x0 : Box w1 w.heap.size 23 gs) (hB1 : Below w.heap.size w w1) (hs1 : w1.heap.size = w.heap.size + 1) (x1 : Box w2 w1.heap.size 28 ws) (hB2 : Below w1.heap.size w1 w2) (hs2 : w2.heap.size = w1.heap.size + 1) : LfIn w w2 gs ws := by
  rw [hs1] at x1
  exact ⟨x0.below hB2 (by omega), x1, bthen hB1 hB2, by omega⟩

/-- the law's variables: the measure, the wreck; the answer's disk in its variable g, beside the device -/
structure LfSt (N : Nat) (conv soft seq size opn : Int) (w W : World) (ws : List Value) (g b : Nat) (D : Dv) (v : KV) (d : Dk) (T U : Nat → Prop) : Prop where
  bo : Both N conv soft seq size opn (w.heap.size + 2) W b D v d T U
  gx : Box W w.heap.size 23 [.int .i64 conv, .int .i64 soft, .int .i64 seq, .int .i64 size, .int .i64 opn]
  wx : Box W (w.heap.size + 1) 28 ws
  bl : Below w.heap.size w W
  dx : Box W g 36 (kcs v)
  gl : w.heap.size + 2 ≤ g
  gt : ¬ T g
  gu : ¬ U g
section
variable {N M g b : Nat} {conv soft seq size opn : Int} {w W W' : World} {ws : List Value} {D D' : Dv} {v v' : KV} {d d' : Dk} {T U : Nat → Prop}
theorem LfSt.on (h : LfSt N conv soft seq size opn w W ws g b D v d T U) (hb : Below W.heap.size W W') : LfSt N conv soft seq size opn w W' ws g b D v d T U :=
  ⟨h.bo.on hb, h.gx.on hb, h.wx.on hb, bthen h.bl hb, h.dx.on hb, h.gl, h.gt, h.gu⟩
theorem LfSt.hT (h : LfSt N conv soft seq size opn w W ws g b D v d T U) : ∀ k, W.heap.size ≤ k → TN T W k := fun k hk => .inr hk
theorem LfSt.far (h : LfSt N conv soft seq size opn w W ws g b D v d T U) : ∀ k, TN T W k → w.heap.size + 2 ≤ k := h.bo.far
theorem LfSt.play (h : LfSt N conv soft seq size opn w W ws g b D v d T U) (hI : DevIs (TN T W) W' b D') (hF : Fr (TN T W) W W') : LfSt N conv soft seq size opn w W' ws g b D' v d (fun k => TN T W k ∧ k < W'.heap.size) U := by
  have hf := h.far
  have hgn : ¬ TN T W g := fun ht => ht.elim h.gt fun hs => by have := h.dx.lt; omega
  exact ⟨h.bo.play hI hF, h.gx.same (hF.same h.gx.lt fun ht => by have := hf _ ht; omega), h.wx.same (hF.same h.wx.lt fun ht => by have := hf _ ht; omega),
    h.bl.trans (hF.below h.bl.size fun k hk ht => by have := hf _ ht; omega), h.dx.same (hF.same h.dx.lt hgn), h.gl, fun ht => hgn ht.1, h.gu⟩
/-- the answer's act, and its disk laid into the variable -/
theorem LfSt.act (h : LfSt N conv soft seq size opn w W ws g b D v d T U) (hI : DkIs M conv soft seq size opn (fun k => U k ∨ W.heap.size ≤ k) W' v' d') (hb : Below W.heap.size W W') {W9 : World} (hx : Box W9 g 36 (kcs v')) (hg : W'.grownBy W9 (some g)) :
    LfSt M conv soft seq size opn w W9 ws g b D v' d' T (fun k => (U k ∨ W.heap.size ≤ k) ∧ k < W'.heap.size) := by
  have hgl := h.gl
  have hgW := h.dx.lt
  have hun : ¬ ((U g ∨ W.heap.size ≤ g) ∧ g < W'.heap.size) := fun hu => hu.1.elim h.gu fun hs => by omega
  have e : ∀ k, k < W'.heap.size → k ≠ g → W9.heap[k]? = W'.heap[k]? := fun k hk hne => hg.block k hk fun he => hne (by injection he)
  have B1 := h.bo.act hI hb
  have hs := hg.size
  have h1 := B1.bl
  refine ⟨⟨B1.dev.keep fun k hk ht => e k hk fun he => h.gt (he ▸ ht), B1.dsk.kept (fun k _ hu => hu) hs fun k hk hu => e k hk fun he => hun (he ▸ hu), by omega, fun k hk => ?_, fun k hk => ?_, B1.ap⟩,
    (h.gx.on hb).same (e _ (h.gx.on hb).lt (by omega)), (h.wx.on hb).same (e _ (h.wx.on hb).lt (by omega)), below_stored (bthen h.bl hb) hg (bthen h.bl hb).size (by omega), hx, h.gl, h.gt, hun⟩
  · have := B1.tl k hk; omega
  · have := B1.ul k hk; omega
/-- a variable made and laid beside -/
theorem LfSt.beside {w1 w2 : World} (h : LfSt N conv soft seq size opn w W ws g b D v d T U) (hB : Below W.heap.size W w1) (hs : w1.heap.size = W.heap.size + 1) (hg : w1.grownBy w2 (some W.heap.size)) : LfSt N conv soft seq size opn w w2 ws g b D v d T U :=
  h.on (below_stored hB hg (by omega) (Nat.le_refl _))
end
theorem pow_snd (z : Z) : (pow z).2 = z.2 := by
  unfold pow rest
  split
  · split
    · rename_i h; exact h.symm
    · rfl
  · rfl
/-- a row of zones that was answered, apart from the device -/
def Zr (W : World) (g n c : Nat) (L : List Z) (T : Nat → Prop) : Prop := (∃ B, W.ownsRow B 53 2 (.slice (some ⟨g, 0, none⟩) n c) n (zc L)) ∧ ¬ T g
theorem Zr.lt {W : World} {g n c : Nat} {L : List Z} {T : Nat → Prop} (h : Zr W g n c L T) : g < W.heap.size := by obtain ⟨⟨B, h1⟩, _⟩ := h; exact (h1.lt g rfl).2
theorem Zr.on {W W' : World} {g n c : Nat} {L : List Z} {T : Nat → Prop} (h : Zr W g n c L T) (hb : Below W.heap.size W W') : Zr W' g n c L T := by
  obtain ⟨⟨B, h1⟩, h2⟩ := h
  exact ⟨⟨B, own_same h1 fun k hk => hb.block k (h1.lt k hk).2⟩, h2⟩
theorem Zr.play {W W' : World} {g n c : Nat} {L : List Z} {T : Nat → Prop} (h : Zr W g n c L T) (hF : Fr (TN T W) W W') : Zr W' g n c L (fun k => TN T W k ∧ k < W'.heap.size) := by
  have hn : ¬ TN T W g := fun ht => ht.elim h.2 fun hs => by have := h.lt; omega
  obtain ⟨⟨B, h1⟩, h2⟩ := h
  refine ⟨⟨B, own_same h1 fun k hk => hF.block k (h1.lt k hk).2 ?_⟩, fun ht => hn ht.1⟩
  have hg' : g = k := Option.some.inj hk
  exact hg' ▸ hn
theorem Zr.rd {W : World} {g n c : Nat} {L : List Z} {T : Nat → Prop} (h : Zr W g n c L T) : Rd W W.heap.size (some ⟨g, 0, none⟩) (zc L) := by obtain ⟨⟨B, h1⟩, _⟩ := h; exact Rd.own h1
theorem Zr.at {W : World} {g n c k : Nat} {L : List Z} {T : Nat → Prop} {z : Z} (h : Zr W g n c L T) (hz : L[k]? = some z) : W.cell? ⟨g, k * 2 + 1, none⟩ = some (.int .i64 z.2) := h.rd.cell0 (zc_get1 hz)
theorem page_len {D : Dv} (h : DvOk D) (a : Pl) : (pageD D a).length = 64 := by
  unfold pageD
  cases hn : newest D.cache a with
  | none => exact (unpg_get (h.pages a)).2
  | some i =>
    show (D.cache.getD i (0, 0, z64)).2.2.length = 64
    rw [List.getD_eq_getElem?_getD]
    cases hi : D.cache[i]? with
    | none => rfl
    | some c => exact h.wok c (List.mem_of_getElem? hi)
end Go.Proofs.Ytkdhibjmfanhcaa

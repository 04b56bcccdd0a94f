/-
  'awake' answers true.
-/
import Derived.Test.YtdcidjbgncbcpaaZoneP
namespace Go.Proofs.Ytdcidjbgncbcpaa
open Go.RowKit Geom Zone
set_option linter.unusedVariables false

theorem eg_ok : Ok 2 8 6 8 3 := by decide
theorem eg_some : Some 2 6 8 := by unfold Some; decide
/-- the zones of the example -/
def eg0 : List Z := newK 8 2
def eg1 : List Z := [(4, 0), (4, 0), (1, 1), (0, 0), (0, 0), (0, 0), (0, 0), (0, 0)]
def eg2 : List Z := [(4, 0), (4, 0), (1, 2), (0, 0), (0, 0), (0, 0), (0, 0), (0, 0)]
theorem eg_w0 : writeL 2 8 6 8 3 eg0 2 0 = (eg1, 0) := by decide
theorem eg_w1 : writeL 2 8 6 8 3 eg1 2 1 = (eg2, 0) := by decide
theorem eg_w2 : writeL 2 8 6 8 3 eg2 2 3 = (eg2, 4) := by decide
theorem eg_fit : fitB 2 6 8 3 eg2 = true := by decide
theorem eg_read : readE 2 8 6 8 eg2 2 2 = 4 := by decide

theorem eg_write {L L' : List Z} {zone off e : Int} (h : writeL 2 8 6 8 3 L zone off = (L', e)) (hn : L.length = 8) (A : Option Addr) (cap : Nat) (w : World) (hr : Rd w w.heap.size A (zc L)) :
    Calls Try.prog 17 #[.agg #[.int .i64 2, .int .i64 8, .int .i64 6, .int .i64 8, .int .i64 3], .slice A 8 cap, .agg #[.int .i64 zone, .int .i64 off]] w fun x w' =>
      ∃ g c, x = .returned (.tuple #[.slice (some ⟨g, 0, none⟩) 8 c, .int .i64 e]) ∧ w'.ownsRow w.heap.size 42 2 (.slice (some ⟨g, 0, none⟩) 8 c) 8 (zc L') ∧ Below w.heap.size w w' := by
  have := zwrite_any 2 8 6 8 3 zone off A 8 cap L w (by decide) hn eg_some (by decide) hr (by decide)
  rw [h] at this
  exact this

theorem measure_any (w : World) : Calls Try.prog 21 #[] w fun e w' => e = .returned (.agg #[.int .i64 2, .int .i64 8, .int .i64 6, .int .i64 8, .int .i64 3]) ∧ Below w.heap.size w w' := by
  go_enter Try.func21, Try.ntmps21
  go_wp2
  refine bodyPost_ret (v := .agg #[.int .i64 2, .int .i64 8, .int .i64 6, .int .i64 8, .int .i64 3]) (by simp [results, Try.results21, go_sem]) rfl ⟨rfl, ?_⟩
  exact (Below.refl _ _).alloc (Nat.le_refl _) _

set_option maxRecDepth 100000 in
set_option maxHeartbeats 4000000 in
theorem awake4_any (w : World) : Calls Try.prog 8 #[] w fun e w' => e = .returned (.bool true) ∧ Below w.heap.size w w' := by
  have qE := eql_zone
  have qG := guard_zone
  have HNew := Lib.hid fun w => new_any 2 8 6 8 3 8 w eg_ok (by decide)
  have HW0 := Lib.hid fun A cap w hr => eg_write eg_w0 rfl A cap w hr
  have HW1 := Lib.hid fun A cap w hr => eg_write eg_w1 rfl A cap w hr
  have HW2 := Lib.hid fun A cap w hr => eg_write eg_w2 rfl A cap w hr
  have HR := Lib.hid fun A cap w hr => zright_any 2 8 6 8 3 A 8 cap eg2 w (by decide) rfl eg_some hr
  have HRd := Lib.hid fun A cap w hr => zread_any 2 8 6 8 3 2 2 A 8 cap eg2 w rfl eg_some (by decide) hr
  rw [eg_fit] at HR
  rw [eg_read] at HRd
  go_enter Try.func8, Try.ntmps8
  go_wp2_with fail
  refine (measure_any _).mono ?_
  rintro e w1 ⟨rfl, hb⟩
  have hl := Lies.new w1 2 8 6 8 3 23 (0, 0)
  have hb0 := hb.alloc hb.size (.cells #[.int .i64 2, .int .i64 8, .int .i64 6, .int .i64 8, .int .i64 3] 23)
  clear hb
  go_wp2_with fail
  generalize World.alloc _ _ = w2 at hl hb0 ⊢
  generalize w1.heap.size = b at hl ⊢
  obtain ⟨c0, c1, c2, c3, c4, hlt⟩ := id hl
  have Hb := Lib.hid hb0
  have SO := Lib.hid fun w' (h : Below w2.heap.size w2 w') => (⟨(hl.below h).1, (hl.below h).2.1, (hl.below h).2.2.1, (hl.below h).2.2.2.1, (hl.below h).2.2.2.2.1⟩ :
    w'.cell? ⟨b, 0, none⟩ = some (.int .i64 2) ∧ w'.cell? ⟨b, 1, none⟩ = some (.int .i64 8) ∧ w'.cell? ⟨b, 2, none⟩ = some (.int .i64 6) ∧ w'.cell? ⟨b, 3, none⟩ = some (.int .i64 8) ∧ w'.cell? ⟨b, 4, none⟩ = some (.int .i64 3))
  have Hl := Lib.hid hl
  clear hb0 hl
  first | go_region_held3 (fun w' => w'.cell? ⟨b, 0, none⟩ = some (.int .i64 2) ∧ w'.cell? ⟨b, 1, none⟩ = some (.int .i64 8) ∧ w'.cell? ⟨b, 2, none⟩ = some (.int .i64 6) ∧ w'.cell? ⟨b, 3, none⟩ = some (.int .i64 8) ∧ w'.cell? ⟨b, 4, none⟩ = some (.int .i64 3))
    (first | exact SO.out _ B4 | exact SO.out _ B3 | exact SO.out _ (Below.refl _ _).drew)
    ((first
      | ((with_reducible refine (HNew.out _).mono ?_); rintro e w3 ⟨g3, rfl, hown3, hb3⟩; have B3 : Below w2.heap.size w2 w3 := bthen (Below.refl _ _).drew hb3; have R3 := Rd.own hown3; clear hown3)
      | ((with_reducible refine (HW0.out _ _ _ R3).mono ?_); rintro e w4 ⟨g4, k4, rfl, hown4, hb4⟩; have B4 : Below w2.heap.size w2 w4 := bthen B3 hb4; have R4 := Rd.own hown4; clear hown4))) | fail
  all_goals
    have L4 := Hl.out.below B4
    clear c0 c1 c2 c3 c4 hlt SO HNew HW0 R3 hb3 hb4
    obtain ⟨c0, c1, c2, c3, c4, hlt⟩ := id L4
    go_wp2_with fail
    refine (HW1.out _ _ _ R4).mono ?_
    rintro e w5 ⟨g5, k5, rfl, hown5, hb5⟩
    have B5 : Below w2.heap.size w2 w5 := bthen B4 hb5
    have R5 := Rd.own hown5
    have L5 := Hl.out.below B5
    clear c0 c1 c2 c3 c4 hlt L4 R4 HW1 hown5 hb5 B4
    obtain ⟨c0, c1, c2, c3, c4, hlt⟩ := id L5
    go_wp2_with fail
    refine (HW2.out _ _ _ R5).mono ?_
    rintro e w6 ⟨g6, k6, rfl, hown6, hb6⟩
    have B6 : Below w2.heap.size w2 w6 := bthen B5 hb6
    have R6 := (R5.below hb6).more hb6.size
    have L6 := Hl.out.below B6
    have x0 := R6.cell0 (k := 4) rfl
    have x1 := R6.cell0 (k := 5) rfl
    clear c0 c1 c2 c3 c4 hlt L5 R5 HW2 hown6 hb6 B5
    obtain ⟨c0, c1, c2, c3, c4, hlt⟩ := id L6
    go_wp2_with fail
    refine (HR.out _ _ _ R6).mono ?_
    rintro e w7 ⟨rfl, hb7⟩
    have B7 : Below w2.heap.size w2 w7 := bthen B6 hb7
    have R7 := (R6.below hb7).more hb7.size
    have L7 := Hl.out.below B7
    clear c0 c1 c2 c3 c4 hlt L6 R6 HR hb7 B6 x0 x1
    obtain ⟨c0, c1, c2, c3, c4, hlt⟩ := id L7
    go_wp2_with fail
    refine (HRd.out _ _ _ R7).mono ?_
    rintro e w8 ⟨rfl, hb8⟩
    have B8 := Lib.hid (bthen Hb.out (bthen B7 hb8))
    clear c0 c1 c2 c3 c4 hlt L7 R7 HRd hb8 B7
    go_wp2
    go_ret
    exact ⟨rfl, B8.out⟩
end Go.Proofs.Ytdcidjbgncbcpaa

/-
  The device, plainly: what is cached, what lasts; what each command and a crash make of it.
-/
import Derived.Test.YtdacdnpghngiiaaZoneN
import Derived.Test.YtdacdnpghngiiaaBytes
namespace Go.Proofs.Ytdacdnpghngiiaa
namespace Dev
open Zone
set_option linter.unusedVariables false

/-- a written sector: the zone, the sector in it, its bytes -/
abbrev Wr := Int × Int × List Int
abbrev Pl := Int × Int
def Wr.pl (c : Wr) : Pl := (c.1, c.2.1)
def wc (c : Wr) : List Value := .int .i64 c.1 :: .int .i64 c.2.1 :: bs c.2.2
def wcs (l : List Wr) : List Value := l.flatMap wc
def WOk (l : List Wr) : Prop := ∀ c ∈ l, c.2.2.length = 64
theorem wc_length {c : Wr} (h : c.2.2.length = 64) : (wc c).length = 66 := by simp [wc, bs_length, h]
theorem wcs_append (l m : List Wr) : wcs (l ++ m) = wcs l ++ wcs m := by simp [wcs]
theorem wcs_one (c : Wr) : wcs [c] = wc c := by simp [wcs]
theorem wcs_length : ∀ {l : List Wr}, WOk l → (wcs l).length = l.length * 66
  | [], _ => rfl
  | c :: r, h => by
    have h1 := wc_length (h c (by simp))
    have h2 := wcs_length (l := r) fun x hx => h x (by simp [hx])
    have e : wcs (c :: r) = wc c ++ wcs r := by simp [wcs]
    rw [e, List.length_append, h1, h2, List.length_cons]
    omega
theorem wcs_get : ∀ {l : List Wr} {k : Nat} {c : Wr}, WOk l → l[k]? = some c → ∀ j v, (wc c)[j]? = some v → (wcs l)[k * 66 + j]? = some v
  | [], k, c, _, h => by simp at h
  | x :: r, 0, c, h, hk => by
    intro j v hj
    simp at hk
    subst hk
    have e : wcs (x :: r) = wc x ++ wcs r := by simp [wcs]
    rw [e, Nat.zero_mul, Nat.zero_add, List.getElem?_append_left (List.getElem?_eq_some_iff.1 hj).1]
    exact hj
  | x :: r, k + 1, c, h, hk => by
    intro j v hj
    have h1 := wc_length (h x (by simp))
    have e : wcs (x :: r) = wc x ++ wcs r := by simp [wcs]
    rw [e, List.getElem?_append_right (by rw [h1]; omega), h1, show (k + 1) * 66 + j - 66 = k * 66 + j by omega]
    exact wcs_get (fun y hy => h y (by simp [hy])) (by simpa using hk) j v hj
theorem wc_cells {c : Wr} {u : Value} (h : u ∈ wc c) : u.oneCell' = true := by
  simp only [wc, List.mem_cons] at h
  rcases h with rfl | rfl | h
  · rfl
  · rfl
  · exact bs_one _ _ h
theorem wcs_cells {l : List Wr} {u : Value} (h : u ∈ wcs l) : u.oneCell' = true := by
  simp only [wcs, List.mem_flatMap] at h
  obtain ⟨c, _, h⟩ := h
  exact wc_cells h
def wv (c : Wr) : Value := .agg (wc c).toArray
def pgv (p : List Int) : Value := .agg (bs p).toArray

/-- the last place in a list at which a place was written -/
def newest (l : List Wr) (a : Pl) : Option Nat := (l.zipIdx.reverse.find? fun x => x.1.pl == a).map (·.2)
theorem newest_nil (a : Pl) : newest [] a = none := rfl
theorem newest_snoc (l : List Wr) (c : Wr) (a : Pl) : newest (l ++ [c]) a = if a = c.pl then some l.length else newest l a := by
  unfold newest
  rw [List.zipIdx_append, List.reverse_append]
  simp only [List.zipIdx_cons, List.zipIdx_nil, List.reverse_cons, List.reverse_nil, List.nil_append, List.cons_append, List.find?_cons, Nat.zero_add]
  by_cases h : a = c.pl
  · subst h
    simp
  · have : (c.pl == a) = false := by
      rw [beq_eq_false_iff_ne]
      exact fun e => h e.symm
    simp [this, h]
theorem newest_lt {l : List Wr} {a : Pl} {i : Nat} (h : newest l a = some i) : i < l.length := by
  unfold newest at h
  simp only [Option.map_eq_some_iff] at h
  obtain ⟨x, hx, rfl⟩ := h
  have := List.mem_of_find?_eq_some hx
  simp at this
  obtain ⟨_, h⟩ := List.getElem?_eq_some_iff.1 (List.mem_zipIdx_iff_getElem?.1 this)
  omega
end Dev
end Go.Proofs.Ytdacdnpghngiiaa

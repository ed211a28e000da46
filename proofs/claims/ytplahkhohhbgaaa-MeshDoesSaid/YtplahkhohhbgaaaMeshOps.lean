/-
  Package mesh: what each call makes of the frames; the same for an act of the law's.
-/
import Derived.Test.YtplahkhohhbgaaaMeshCount
namespace Go.Proofs.Msh
def getAt (xs : List ByteArray) (n : Int) : Option ByteArray := if n < 0 then none else xs[n.toNat]?
theorem getAt_none {xs : List ByteArray} {n : Int} (h : getAt xs n = none) : n < 0 ∨ (xs.length : Int) ≤ n := by
  unfold getAt at h
  split at h
  · exact .inl (by assumption)
  · have := List.getElem?_eq_none_iff.1 h
    exact .inr (by omega)
theorem getAt_some {xs : List ByteArray} {n : Int} {x : ByteArray} (h : getAt xs n = some x) : ∃ k : Nat, n = k ∧ k < xs.length ∧ xs[k]? = some x ∧ n.toNat = k := by
  unfold getAt at h
  split at h
  · cases h
  · exact ⟨n.toNat, by omega, (List.getElem?_eq_some_iff.1 h).1, h, rfl⟩
theorem getAt_nat {xs : List ByteArray} {k : Nat} : getAt xs (k : Int) = xs[k]? := by unfold getAt; rw [if_neg (by omega), Int.toNat_natCast]
def sendF (r : Int) (xs : List ByteArray) (s : ByteArray) : List ByteArray × Bool := if (xs.length : Int) = r then (xs, false) else (xs ++ [s], true)
def takeF (xs : List ByteArray) (n : Int) : List ByteArray × ByteArray × Bool := match getAt xs n with
  | some x => (xs.eraseIdx n.toNat, x, true)
  | none => (xs, ⟨#[]⟩, false)
def doubleF (r : Int) (xs : List ByteArray) (n : Int) : List ByteArray × Bool := match getAt xs n with
  | some x => sendF r xs x
  | none => (xs, false)
/-- The frames, one more at a place. -/
def lay (xs : List ByteArray) (n : Nat) (s : ByteArray) : List ByteArray := xs.take n ++ s :: xs.drop n
def moveF (xs : List ByteArray) (n to : Int) : List ByteArray × Bool := match getAt xs n, getAt xs to with
  | some x, some _ => (lay (xs.eraseIdx n.toNat) to.toNat x, true)
  | _, _ => (xs, false)
structure Deed where
  k : Int
  s : ByteArray
  n : Int
  to : Int
/-- An act: the frames behind it, the frame that it tells, and whether it was done. -/
def actF (r : Int) (xs : List ByteArray) (a : Deed) : List ByteArray × ByteArray × Bool :=
  if a.k = 0 then ((sendF r xs a.s).1, ⟨#[]⟩, (sendF r xs a.s).2)
  else if a.k = 1 then takeF xs a.n
  else if a.k = 2 then ((takeF xs a.n).1, ⟨#[]⟩, (takeF xs a.n).2.2)
  else if a.k = 3 then ((doubleF r xs a.n).1, ⟨#[]⟩, (doubleF r xs a.n).2)
  else ((moveF xs a.n a.to).1, ⟨#[]⟩, (moveF xs a.n a.to).2)
end Go.Proofs.Msh
namespace Go.Proofs.Ytplahkhohhbgaaa
open Go.RowKit Go.Proofs.Msh
set_option linter.unusedVariables false
set_option linter.unusedSimpArgs false
/-- A mesh that was made behind w0. -/
def Ms (w0 : World) (g : Nat) (r : Int) (v : Value) (xs : List ByteArray) (w : World) : Prop :=
  Mh w0.heap.size g r v xs w ∧ (∀ i, Own g v i → w0.heap.size ≤ i) ∧ Bl w0.heap.size w0 w ∧ (xs.length : Int) ≤ r ∧ r ≤ 64
/-- Behind a call. -/
def Mo (w0 : World) (g : Nat) (r : Int) (v : Value) (w w' : World) (ys : List ByteArray) : Prop := ∃ v', Ms w0 g r v' ys w' ∧ Far (Own g v) w w' ∧ Fresh w v v'
section
variable {w0 : World} {g : Nat} {r : Int} {v : Value} {xs ys : List ByteArray} {w w' : World}
theorem Ms.len (h : Ms w0 g r v xs w) : xs.length ≤ 64 := by have := h.2.2.2.1; have := h.2.2.2.2; omega
theorem Ms.to (h : Ms w0 g r v xs w) (k : Step w0.heap.size g r v xs w w' ys) (hy : (ys.length : Int) ≤ r) : Mo w0 g r v w w' ys := by
  obtain ⟨v', hM, F, O⟩ := k
  refine ⟨v', ⟨hM, ?_, Far.bl h.2.2.1 F h.2.1, hy, h.2.2.2.2⟩, F, O⟩
  rintro i (hi | hi)
  · exact h.2.1 i (.inl hi)
  · rcases O with e | e
    · exact h.2.1 i (.inr (by rw [← e]; exact hi))
    · exact Nat.le_trans h.2.2.1.2 (e i hi)
theorem Ms.below (h : Ms w0 g r v xs w) (k : Below w.heap.size w w') : Ms w0 g r v xs w' :=
  ⟨h.1.below k, h.2.1, ⟨h.2.2.1.1.trans (k.mono h.2.2.1.2), Nat.le_trans h.2.2.1.2 k.size⟩, h.2.2.2⟩
theorem Ms.drewN (h : Ms w0 g r v xs w) (n : Nat) : Ms w0 g r v xs (w.drewN n) := h.below (below_drewN (Below.refl _ _) n)
theorem send_any (s : ByteArray) (h : Ms w0 g r v xs w) :
    Calls Try.prog 39 #[.pointer (some ⟨g, 0, none⟩), .string s] w fun e w' => e = .returned (.bool (sendF r xs s).2) ∧ Mo w0 g r v w w' (sendF r xs s).1 := by
  unfold sendF
  by_cases hr : (xs.length : Int) = r
  · subst hr
    rw [if_pos rfl]
    refine (msend_no _ g v xs s w h.1).mono ?_
    rintro e w1 ⟨rfl, hd⟩
    exact ⟨rfl, h.to (step_drewN h.1 hd) (Int.le_refl _)⟩
  · rw [if_neg hr]
    refine (msend_yes _ g r v xs s w h.1 hr h.2.2.1.2 (by have := h.len; omega)).mono ?_
    rintro e w1 ⟨rfl, hS⟩
    exact ⟨rfl, h.to (xs := xs) hS (by have := h.2.2.2.1; simp; omega)⟩
theorem take_any (n : Int) (h : Ms w0 g r v xs w) :
    Calls Try.prog 41 #[.pointer (some ⟨g, 0, none⟩), .int .i64 n] w fun e w' => e = .returned (.tuple #[.string (takeF xs n).2.1, .bool (takeF xs n).2.2]) ∧ Mo w0 g r v w w' (takeF xs n).1 := by
  unfold takeF
  rcases hg : getAt xs n with _ | x
  · refine (mtake_no _ g r v xs n w h.1 (getAt_none hg)).mono ?_
    rintro e w1 ⟨rfl, hS⟩
    exact ⟨rfl, h.to hS h.2.2.2.1⟩
  · obtain ⟨k, rfl, hk, hx, hkn⟩ := getAt_some hg
    refine (mtake_yes _ g r v xs k x w h.1 hx (by have := h.len; omega)).mono ?_
    rintro e w1 ⟨rfl, hS⟩
    refine ⟨rfl, h.to (xs := xs) (by rw [hkn]; exact hS) ?_⟩
    have := h.2.2.2.1
    rw [hkn, List.length_eraseIdx_of_lt hk]
    omega
theorem drop_any (n : Int) (h : Ms w0 g r v xs w) :
    Calls Try.prog 52 #[.pointer (some ⟨g, 0, none⟩), .int .i64 n] w fun e w' => e = .returned (.bool (takeF xs n).2.2) ∧ Mo w0 g r v w w' (takeF xs n).1 := by
  unfold takeF
  rcases hg : getAt xs n with _ | x
  · refine (mdrop_no _ g r v xs n w h.1 (getAt_none hg)).mono ?_
    rintro e w1 ⟨rfl, hS⟩
    exact ⟨rfl, h.to hS h.2.2.2.1⟩
  · obtain ⟨k, rfl, hk, hx, hkn⟩ := getAt_some hg
    refine (mdrop_yes _ g r v xs k w h.1 hk (by have := h.len; omega)).mono ?_
    rintro e w1 ⟨rfl, hS⟩
    refine ⟨rfl, h.to (xs := xs) (by rw [hkn]; exact hS) ?_⟩
    have := h.2.2.2.1
    rw [hkn, List.length_eraseIdx_of_lt hk]
    omega
theorem double_any (n : Int) (h : Ms w0 g r v xs w) :
    Calls Try.prog 42 #[.pointer (some ⟨g, 0, none⟩), .int .i64 n] w fun e w' => e = .returned (.bool (doubleF r xs n).2) ∧ Mo w0 g r v w w' (doubleF r xs n).1 := by
  unfold doubleF
  rcases hg : getAt xs n with _ | x
  · refine (mdouble_no _ g r v xs n w h.1 (getAt_none hg)).mono ?_
    rintro e w1 ⟨rfl, hS⟩
    exact ⟨rfl, h.to hS h.2.2.2.1⟩
  · obtain ⟨k, rfl, hk, hx, hkn⟩ := getAt_some hg
    exact mdouble_any _ _ _ g r v xs k x w h.1 hx (send_any x h)
theorem laid_eq (xs : List ByteArray) (n : Nat) (s : ByteArray) : laid xs n s = lay xs n s := rfl
theorem move_all (n to : Int) (h : Ms w0 g r v xs w) :
    Calls Try.prog 40 #[.pointer (some ⟨g, 0, none⟩), .int .i64 n, .int .i64 to] w fun e w' => e = .returned (.bool (moveF xs n to).2) ∧ Mo w0 g r v w w' (moveF xs n to).1 := by
  unfold moveF
  rcases hg : getAt xs n with _ | x
  · refine (mmove_no _ g r v xs n to w h.1 (.inl (getAt_none hg))).mono ?_
    rintro e w1 ⟨rfl, hS⟩
    exact ⟨rfl, h.to hS h.2.2.2.1⟩
  · rcases ht : getAt xs to with _ | y
    · refine (mmove_no _ g r v xs n to w h.1 (.inr (getAt_none ht))).mono ?_
      rintro e w1 ⟨rfl, hS⟩
      exact ⟨rfl, h.to hS h.2.2.2.1⟩
    · obtain ⟨k, rfl, hk, hx, hkn⟩ := getAt_some hg
      obtain ⟨t, rfl, htl, hy, htn⟩ := getAt_some ht
      refine (mmove_yes _ g r v xs k t x w h.1 hx htl (by have := h.len; omega) h.2.2.1.2).mono ?_
      rintro e w1 ⟨rfl, hS⟩
      refine ⟨rfl, h.to (xs := xs) (by show Step _ g r v xs w w1 (lay (xs.eraseIdx (k : Int).toNat) (t : Int).toNat x); rw [hkn, htn]; exact hS) ?_⟩
      show ((lay (xs.eraseIdx (k : Int).toNat) (t : Int).toNat x).length : Int) ≤ r
      rw [hkn, htn]
      have h1 := laid_length (xs.eraseIdx k) t x (by rw [List.length_eraseIdx_of_lt hk]; omega)
      rw [← laid_eq, h1, List.length_eraseIdx_of_lt hk]
      have := h.2.2.2.1
      omega
theorem all_exact (h : Ms w0 g r v xs w) :
    Calls Try.prog 36 #[.pointer (some ⟨g, 0, none⟩)] w fun e w' => e = .returned (.slice (some ⟨w.heap.size, 0, none⟩) xs.length xs.length) ∧ Sl w' (.slice (some ⟨w.heap.size, 0, none⟩) xs.length xs.length) xs ∧ Below w.heap.size w w' :=
  mall_any _ g r v xs w h.1 (by have := h.len; omega)
theorem all_any (h : Ms w0 g r v xs w) :
    Calls Try.prog 36 #[.pointer (some ⟨g, 0, none⟩)] w fun e w' => ∃ c, e = .returned (.slice (some ⟨w.heap.size, 0, none⟩) xs.length c) ∧ Sl w' (.slice (some ⟨w.heap.size, 0, none⟩) xs.length c) xs ∧ Below w.heap.size w w' :=
  (all_exact h).mono fun e w' ⟨he, hS, hb⟩ => ⟨xs.length, he, hS, hb⟩
theorem count_any (s : ByteArray) (h : Ms w0 g r v xs w) :
    Calls Try.prog 37 #[.pointer (some ⟨g, 0, none⟩), .string s] w fun e w' => e = .returned (.int .i64 (cntOf xs s : Int)) ∧ ∃ n, w' = w.drewN n :=
  mcount_any _ g r v xs s w h.1 (by have := h.len; omega)
end
/-- A new one. -/
theorem new_any (n : Int) (w0 w : World) (hb : Bl w0.heap.size w0 w) :
    Calls Try.prog 31 #[.int .i64 n] w fun e w' => e = .returned (.pointer (some ⟨w.heap.size, 0, none⟩)) ∧ Ms w0 w.heap.size (roomOf n) (.slice none 0 0) [] w' ∧ Below w.heap.size w w' := by
  refine (mnew_any n w).mono ?_
  rintro e w1 ⟨rfl, rfl⟩
  have hr := roomOf_bd n
  refine ⟨rfl, ⟨⟨Blk.new _ _ _, ⟨rfl, .inl ⟨rfl, rfl⟩⟩, by simp [Value.ownBlock]⟩, ?_, ⟨hb.1.alloc hb.2 _, by have := hb.2; simp; omega⟩, by simp; omega, hr.2⟩, (Below.refl _ _).alloc (Nat.le_refl _) _⟩
  rintro i (rfl | hi)
  · exact hb.2
  · cases hi
end Go.Proofs.Ytplahkhohhbgaaa

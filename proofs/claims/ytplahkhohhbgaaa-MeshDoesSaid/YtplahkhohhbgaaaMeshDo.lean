/-
  The law's package: an act done; whether acts are few; the document's example.
-/
import Derived.Test.YtplahkhohhbgaaaMeshOps
import Derived.Handy
namespace Go.Proofs.Ytplahkhohhbgaaa
open Go.RowKit Go.Proofs.Msh
set_option linter.unusedVariables false
set_option linter.unusedSimpArgs false
theorem Mo.behind {w0 : World} {g : Nat} {r : Int} {v : Value} {ys : List ByteArray} {w w1 w' : World} (hb : Below w.heap.size w w1) (h : Mo w0 g r v w1 w' ys) : Mo w0 g r v w w' ys := by
  obtain ⟨v', hM, F, O⟩ := h
  refine ⟨v', hM, (Far.call (Far.refl (Own g v) w) hb).trans F (fun i _ h => h), ?_⟩
  rcases O with e | e
  · exact .inl e
  · exact .inr (fun i hi => Nat.le_trans hb.size (e i hi))
/-- An act as a value. -/
def actVal (a : Deed) : Value := .agg #[.int .i64 a.k, .string a.s, .int .i64 a.n, .int .i64 a.to]
set_option maxHeartbeats 1000000 in
theorem do_any {w0 : World} {g : Nat} {r : Int} {v : Value} {xs : List ByteArray} {w : World} (a : Deed) (h : Ms w0 g r v xs w) :
    Calls Try.prog 34 #[.pointer (some ⟨g, 0, none⟩), .agg #[.int .i64 a.k, .string a.s, .int .i64 a.n, .int .i64 a.to]] w fun e w' => e = .returned (.tuple #[.string (actF r xs a).2.1, .bool (actF r xs a).2.2]) ∧ Mo w0 g r v w w' (actF r xs a).1 := by
  obtain ⟨k, s, n, to⟩ := a
  have hb : Below w.heap.size w (w.alloc (.cells #[.int .i64 k, .string s, .int .i64 n, .int .i64 to] 63)) := (Below.refl _ _).alloc (Nat.le_refl _) _
  have HH := Lib.hid (h.below hb)
  have HB := Lib.hid hb
  clear hb h
  unfold actF
  dsimp only
  by_cases h0 : k = 0
  · subst h0
    rw [if_pos rfl]
    go_enter Try.func34, Try.ntmps34
    go_wp2_with fail
    refine (send_any s HH.out).mono ?_
    rintro e w1 ⟨rfl, hM⟩
    go_wp2_with fail
    go_returns
    exact ⟨rfl, hM.behind HB.out⟩
  · rw [if_neg h0]
    by_cases h1 : k = 1
    · subst h1
      rw [if_pos rfl]
      clear h0
      go_enter Try.func34, Try.ntmps34
      go_wp2_with fail
      refine (take_any n HH.out).mono ?_
      rintro e w1 ⟨rfl, hM⟩
      go_wp2_with fail
      go_returns
      exact ⟨rfl, hM.behind HB.out⟩
    · rw [if_neg h1]
      by_cases h2 : k = 2
      · subst h2
        rw [if_pos rfl]
        clear h0 h1
        go_enter Try.func34, Try.ntmps34
        go_wp2_with fail
        refine (drop_any n HH.out).mono ?_
        rintro e w1 ⟨rfl, hM⟩
        go_wp2_with fail
        go_returns
        exact ⟨rfl, hM.behind HB.out⟩
      · rw [if_neg h2]
        by_cases h3 : k = 3
        · subst h3
          rw [if_pos rfl]
          clear h0 h1 h2
          go_enter Try.func34, Try.ntmps34
          go_wp2_with fail
          refine (double_any n HH.out).mono ?_
          rintro e w1 ⟨rfl, hM⟩
          go_wp2_with fail
          go_returns
          exact ⟨rfl, hM.behind HB.out⟩
        · rw [if_neg h3]
          go_enter Try.func34, Try.ntmps34
          go_wp2_with fail
          refine (move_all n to HH.out).mono ?_
          rintro e w1 ⟨rfl, hM⟩
          go_wp2_with fail
          go_returns
          exact ⟨rfl, hM.behind HB.out⟩
end Go.Proofs.Ytplahkhohhbgaaa

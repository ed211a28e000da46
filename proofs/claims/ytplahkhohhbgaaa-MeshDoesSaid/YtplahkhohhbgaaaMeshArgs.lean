/-
  A law's acts, opened.
-/
import Derived.Test.YtplahkhohhbgaaaArgs
import Derived.Test.YtplahkhohhbgaaaMeshFew
import Derived.Lib.SmallJoins
namespace Go.Proofs.Ytplahkhohhbgaaa
open Go.RowKit Go.ChangeShapes Go.WideShapes Go.Proofs.Msh
instance : Inhabited Deed := ⟨⟨0, ⟨#[]⟩, 0, 0⟩⟩
set_option linter.unusedVariables false
set_option linter.unusedSimpArgs false
theorem list4 {α : Type} {cs : List α} (h : cs.length = 4) : ∃ c0 c1 c2 c3, cs = [c0, c1, c2, c3] := by
  match cs, h with
  | [c0, c1, c2, c3], _ => exact ⟨c0, c1, c2, c3, rfl⟩
set_option maxRecDepth 100000 in
theorem arg_deeds {H : Type} {enc : TypeId × Value → H} {W : World} {v : Value} {d : DataW H} {p : List MemPlace} (hv : Value.okWide Try.prog W .any 0 54 v) (h : DataW.Trod enc Try.prog W 0 (fun _ => true) true 54 v d p) :
    ∃ A c l, v = .slice A l.length c ∧ Sa W A l ∧ (∀ a ∈ l, a.s.size ≤ maxLen ∧ (Lit.int .i64 a.k).wf = true ∧ (Lit.int .i64 a.n).wf = true ∧ (Lit.int .i64 a.to).wf = true) ∧ l.length ≤ maxLen := by
  obtain ⟨a0, len, cap, rfl⟩ := okWide_slice Try.underlying54 hv
  obtain ⟨fuel, hf⟩ := h
  have hC : Try.prog.cellsOf 63 = 4 := by kernel_rfl
  have hI : Try.prog.cellsOf 3 = 1 := by kernel_rfl
  have hS : Try.prog.cellsOf 9 = 1 := by kernel_rfl
  rcases Go.Deep.open_slice Try.underlying54 hf with ⟨hcs, hx⟩ | ⟨a, len', cap', m, n, D, Pl, hcs, _, hl, hm, hmm, hx, hall⟩
  · simp [Value.cells] at hcs
    obtain ⟨rfl, rfl, rfl⟩ := hcs
    exact ⟨none, 0, [], rfl, .inl rfl, (fun x h => by cases h), Nat.zero_le _⟩
  · simp [Value.cells] at hcs
    obtain ⟨rfl, rfl, rfl⟩ := hcs
    simp only [if_true] at hmm
    subst hmm
    have each : ∀ i, i < len → ∃ x : Deed, W.cell? (a.add (i * 4)) = some (.int .i64 x.k) ∧ W.cell? (a.add (i * 4 + 1)) = some (.string x.s) ∧ W.cell? (a.add (i * 4 + 2)) = some (.int .i64 x.n) ∧ W.cell? (a.add (i * 4 + 3)) = some (.int .i64 x.to) ∧
        x.s.size ≤ maxLen ∧ (Lit.int .i64 x.k).wf = true ∧ (Lit.int .i64 x.n).wf = true ∧ (Lit.int .i64 x.to).wf = true := by
      intro i hi
      obtain ⟨cs', h1, h2⟩ := hall i (by omega)
      rw [hC] at h1
      obtain ⟨_, hlen, hc⟩ := World.cells?_some h1
      obtain ⟨y0, y1, y2, y3, q, _, _, t0, t1, t2, t3⟩ := Go.Joins.trod_struct4 Try.underlying63 h2
      obtain ⟨v0, v1, v2, v3, rfl⟩ := list4 hlen
      simp only [hI, hS, List.drop, List.take] at t0 t1 t2 t3
      obtain ⟨k, e0, _, w0⟩ := DataW.trod_int Try.underlying3 t0
      obtain ⟨s, e1, _, w1⟩ := DataW.trod_string Try.underlying9 t1
      obtain ⟨n', e2, _, w2⟩ := DataW.trod_int Try.underlying3 t2
      obtain ⟨to, e3, _, w3⟩ := DataW.trod_int Try.underlying3 t3
      cases e0; cases e1; cases e2; cases e3
      refine ⟨⟨k, s, n', to⟩, ?_, ?_, ?_, ?_, w1, w0, w2, w3⟩
      · have := hc 0 (by omega); simpa [Addr.add_add] using this
      · have := hc 1 (by omega); simpa [Addr.add_add] using this
      · have := hc 2 (by omega); simpa [Addr.add_add] using this
      · have := hc 3 (by omega); simpa [Addr.add_add] using this
    obtain ⟨f, hfx⟩ := Go.Deep.choose_lt (α := Deed) each
    have hget : ∀ j x, ((List.range len).map f)[j]? = some x → j < len ∧ f j = x := by
      intro j x hx
      have hj : j < len := by have := (List.getElem?_eq_some_iff.1 hx).1; simpa using this
      rw [List.getElem?_map, List.getElem?_range hj] at hx
      exact ⟨hj, Option.some.inj hx⟩
    refine ⟨some a, _, (List.range len).map f, by simp; rfl, ?_, ?_, by simp; omega⟩
    · rcases Nat.eq_zero_or_pos len with h0 | h0
      · subst h0; exact .inl rfl
      · have hc0 := (hfx 0 h0).1
        obtain ⟨b, o, rfl⟩ := spot_none (a := a) (by simpa using hc0)
        rw [Addr.add_mid] at hc0
        refine .inr ⟨b, o, rfl, ?_, fun j x hx => ?_⟩
        · rcases Nat.lt_or_ge b W.heap.size with h | h
          · exact h
          · simp [World.cell?, h] at hc0
        · obtain ⟨hj, rfl⟩ := hget j x hx
          obtain ⟨c0, c1, c2, c3, _⟩ := hfx j hj
          simp only [Addr.add_mid] at c0 c1 c2 c3
          exact ⟨c0, by rw [Nat.add_assoc]; exact c1, by rw [Nat.add_assoc]; exact c2, by rw [Nat.add_assoc]; exact c3⟩
    · intro x hx
      obtain ⟨i, hi, rfl⟩ := List.mem_map.1 hx
      obtain ⟨_, _, _, _, h1⟩ := hfx i (List.mem_range.1 hi)
      exact h1
end Go.Proofs.Ytplahkhohhbgaaa

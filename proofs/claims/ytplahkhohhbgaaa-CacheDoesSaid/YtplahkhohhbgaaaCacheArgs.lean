/-
  A law's acts, opened.
-/
import Derived.Test.YtplahkhohhbgaaaArgs
import Derived.Test.YtplahkhohhbgaaaCacheWorks
import Derived.Lib.SmallJoins
import Derived.Deep.Strs
namespace Go.Proofs.Cch
structure Wish where
  k : Int
  key : ByteArray
  value : ByteArray
instance : Inhabited Wish := ⟨⟨0, ⟨#[]⟩, ⟨#[]⟩⟩⟩
def cfewF (l : List Wish) : Bool := decide (l.length ≤ 200 ∧ ∀ a ∈ l, a.key.size ≤ 50 ∧ a.value.size ≤ 50)
end Go.Proofs.Cch
namespace Go.Proofs.Ytplahkhohhbgaaa
open Go.RowKit Go.ChangeShapes Go.WideShapes Go.Proofs.Cch
set_option linter.unusedVariables false
set_option linter.unusedSimpArgs false
/-- Acts that lie in memory. -/
def Sk (w : World) (A : Option Addr) (l : List Wish) : Prop := l = [] ∨ ∃ b o, A = some ⟨b, o, none⟩ ∧ b < w.heap.size ∧ ∀ j a, l[j]? = some a →
  w.cell? ⟨b, o + j * 3, none⟩ = some (.int .i64 a.k) ∧ w.cell? ⟨b, o + j * 3 + 1, none⟩ = some (.string a.key) ∧ w.cell? ⟨b, o + j * 3 + 2, none⟩ = some (.string a.value)
theorem Sk.below {w w' : World} {A : Option Addr} {l : List Wish} (h : Sk w A l) (k : Below w.heap.size w w') : Sk w' A l := by
  rcases h with h | ⟨b, o, rfl, hb, hc⟩
  · exact .inl h
  · refine .inr ⟨b, o, rfl, Nat.lt_of_lt_of_le hb k.size, fun j a ha => ?_⟩
    obtain ⟨h0, h1, h2⟩ := hc j a ha
    exact ⟨(k.cell (p := ⟨b, _, none⟩) hb).trans h0, (k.cell (p := ⟨b, _, none⟩) hb).trans h1, (k.cell (p := ⟨b, _, none⟩) hb).trans h2⟩
theorem Sk.at_ {w : World} {A : Option Addr} {l : List Wish} (h : Sk w A l) (k : Nat) (a : Wish) (ha : l[k]? = some a) : ∃ b o, A = some ⟨b, o, none⟩ ∧ b < w.heap.size ∧
    w.cell? ⟨b, o + k * 3, none⟩ = some (.int .i64 a.k) ∧ w.cell? ⟨b, o + k * 3 + 1, none⟩ = some (.string a.key) ∧ w.cell? ⟨b, o + k * 3 + 2, none⟩ = some (.string a.value) := by
  rcases h with h | ⟨b, o, h1, h2, h3⟩
  · subst h; simp at ha
  · exact ⟨b, o, h1, h2, h3 k a ha⟩
theorem list3c {α : Type} {cs : List α} (h : cs.length = 3) : ∃ c0 c1 c2, cs = [c0, c1, c2] := by
  match cs, h with
  | [c0, c1, c2], _ => exact ⟨c0, c1, c2, rfl⟩
set_option maxRecDepth 100000 in
theorem arg_asks {H : Type} {enc : TypeId × Value → H} {W : World} {v : Value} {d : DataW H} {p : List MemPlace} (hv : Value.okWide Try.prog W .any 0 22 v) (h : DataW.Trod enc Try.prog W 0 (fun _ => true) true 22 v d p) :
    ∃ A c l, v = .slice A l.length c ∧ Sk W A l ∧ (∀ a ∈ l, a.key.size ≤ maxLen ∧ a.value.size ≤ maxLen ∧ (Lit.int .i64 a.k).wf = true) ∧ l.length ≤ maxLen := by
  obtain ⟨a0, len, cap, rfl⟩ := okWide_slice Try.underlying22 hv
  obtain ⟨fuel, hf⟩ := h
  have hC : Try.prog.cellsOf 33 = 3 := by kernel_rfl
  have hI : Try.prog.cellsOf 3 = 1 := by kernel_rfl
  have hS : Try.prog.cellsOf 9 = 1 := by kernel_rfl
  rcases Go.Deep.open_slice Try.underlying22 hf with ⟨hcs, hx⟩ | ⟨a, len', cap', m, n, D, Pl, hcs, _, hl, hm, hmm, hx, hall⟩
  · simp [Value.cells] at hcs
    obtain ⟨rfl, rfl, rfl⟩ := hcs
    exact ⟨none, 0, [], rfl, .inl rfl, (fun x h => by cases h), Nat.zero_le _⟩
  · simp [Value.cells] at hcs
    obtain ⟨rfl, rfl, rfl⟩ := hcs
    simp only [if_true] at hmm
    subst hmm
    have each : ∀ i, i < len → ∃ x : Wish, W.cell? (a.add (i * 3)) = some (.int .i64 x.k) ∧ W.cell? (a.add (i * 3 + 1)) = some (.string x.key) ∧ W.cell? (a.add (i * 3 + 2)) = some (.string x.value) ∧
        x.key.size ≤ maxLen ∧ x.value.size ≤ maxLen ∧ (Lit.int .i64 x.k).wf = true := by
      intro i hi
      obtain ⟨cs', h1, h2⟩ := hall i (by omega)
      rw [hC] at h1
      obtain ⟨_, hlen, hc⟩ := World.cells?_some h1
      obtain ⟨y0, y1, y2, q, _, _, t0, t1, t2⟩ := Go.Deep.trod_struct3 Try.underlying33 h2
      obtain ⟨v0, v1, v2, rfl⟩ := list3c hlen
      simp only [hI, hS, List.drop, List.take] at t0 t1 t2
      obtain ⟨k, e0, _, w0⟩ := DataW.trod_int Try.underlying3 t0
      obtain ⟨s, e1, _, w1⟩ := DataW.trod_string Try.underlying9 t1
      obtain ⟨s', e2, _, w2⟩ := DataW.trod_string Try.underlying9 t2
      cases e0; cases e1; cases e2
      refine ⟨⟨k, s, s'⟩, ?_, ?_, ?_, w1, w2, w0⟩
      · have := hc 0 (by omega); simpa [Addr.add_add] using this
      · have := hc 1 (by omega); simpa [Addr.add_add] using this
      · have := hc 2 (by omega); simpa [Addr.add_add] using this
    obtain ⟨f, hfx⟩ := Go.Deep.choose_lt (α := Wish) each
    have hget : ∀ j x, ((List.range len).map f)[j]? = some x → j < len ∧ f j = x := by
      intro j x hx
      have hj : j < len := by have := (List.getElem?_eq_some_iff.1 hx).1; simpa using this
      rw [List.getElem?_map, List.getElem?_range hj] at hx
      exact ⟨hj, Option.some.inj hx⟩
    refine ⟨some a, _, (List.range len).map f, by simp; rfl, ?_, ?_, by simp; omega⟩
    · rcases Nat.eq_zero_or_pos len with h0 | h0
      · subst h0; exact .inl rfl
      · have hc0 := (hfx 0 h0).1
        obtain ⟨b, o, rfl⟩ := spot_none (a := a) (by simpa using hc0)
        rw [Addr.add_mid] at hc0
        refine .inr ⟨b, o, rfl, ?_, fun j x hx => ?_⟩
        · rcases Nat.lt_or_ge b W.heap.size with h | h
          · exact h
          · simp [World.cell?, h] at hc0
        · obtain ⟨hj, rfl⟩ := hget j x hx
          obtain ⟨c0, c1, c2, _⟩ := hfx j hj
          simp only [Addr.add_mid] at c0 c1 c2
          exact ⟨c0, by rw [Nat.add_assoc]; exact c1, by rw [Nat.add_assoc]; exact c2⟩
    · intro x hx
      obtain ⟨i, hi, rfl⟩ := List.mem_map.1 hx
      obtain ⟨_, _, _, h1⟩ := hfx i (List.mem_range.1 hi)
      exact h1
end Go.Proofs.Ytplahkhohhbgaaa

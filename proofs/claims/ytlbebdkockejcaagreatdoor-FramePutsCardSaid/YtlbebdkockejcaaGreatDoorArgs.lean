/-
  A law's arguments that lead into memory, opened: rows of strings.
-/
import Derived.Test.YtlbebdkockejcaaGreatDoorGaFar
import Derived.SliceStrings
import Derived.Deep.Slices
import Derived.ProofKit
import Derived.Carry
namespace Go.Proofs.YtlbebdkockejcaaGreatDoor
open Go.RowKit Go.ChangeShapes Go.WideShapes
set_option linter.unusedVariables false
set_option linter.unusedSimpArgs false
set_option maxRecDepth 100000
theorem laidOut : laidOutB Tryz.prog = true := by kernel_rfl
theorem spot_none {w : World} {a : Addr} {v : Value} (h : w.cell? (a.add 0) = some v) : ∃ b o, a = ⟨b, o, none⟩ := by
  obtain ⟨b, o, s⟩ := a
  have hs : s = none := by simpa [Addr.add] using World.cell?_spot h
  exact ⟨b, o, by rw [hs]⟩
theorem arg_strs {H : Type} {enc : TypeId × Value → H} {W : World} {v : Value} {d : DataW H} {p : List MemPlace} (hv : Value.okWide Tryz.prog W .any 0 60 v) (h : DataW.Trod enc Tryz.prog W 0 (fun _ => true) true 60 v d p) :
    ∃ A c l, v = .slice A l.length c ∧ Strs W A l ∧ (∀ x ∈ l, x.size ≤ maxLen) ∧ l.length ≤ maxLen := by
  obtain ⟨a0, len, cap, rfl⟩ := okWide_slice Tryz.underlying60 hv
  obtain ⟨fuel, hf⟩ := h
  rcases open_strings Tryz.underlying60 Tryz.underlying9 (by kernel_rfl) hf with ⟨hcs, hx⟩ | ⟨a, len', cap', ss, hcs, _, hl, hm, hz, hx, hcell, hsz⟩
  · simp [Value.cells] at hcs
    obtain ⟨rfl, rfl, rfl⟩ := hcs
    exact ⟨none, 0, [], rfl, .inl rfl, (fun x h => by cases h), Nat.zero_le _⟩
  · simp [Value.cells] at hcs
    obtain ⟨rfl, rfl, rfl⟩ := hcs
    simp only [if_true] at hz
    have hlen : (ss.take len).length = len := by rw [List.length_take]; omega
    refine ⟨some a, cap, ss.take len, by rw [hlen], ?_, fun x hx => hsz x (List.mem_of_mem_take hx), by omega⟩
    rcases Nat.eq_zero_or_pos len with h0 | h0
    · subst h0; exact .inl rfl
    · obtain ⟨b, o, rfl⟩ := spot_none (hcell 0 (by omega))
      have hc0 := hcell 0 (by omega)
      rw [Addr.add_mid] at hc0
      refine .inr ⟨b, o, rfl, ?_, fun j x hx => ?_⟩
      · rcases Nat.lt_or_ge b W.heap.size with h | h
        · exact h
        · simp [World.cell?, h] at hc0
      · have hj : j < len := by have := (List.getElem?_eq_some_iff.1 hx).1; omega
        have := hcell j (by omega)
        rw [Addr.add_mid] at this
        rw [this]
        rw [List.getElem?_take_of_lt hj] at hx
        rw [List.getD, hx]
        rfl
end Go.Proofs.YtlbebdkockejcaaGreatDoor

/-
  A law's acts for a model, opened, in the frame's form.
-/
import Derived.Test.YtdahhnefcageeaaMdlArgs
namespace Go.Proofs.Ytdahhnefcageeaa
open Go.RowKit Go.ChangeShapes Go.WideShapes Go.Proofs.Mdl
set_option maxRecDepth 100000 in
theorem arg_actsT {H : Type} {enc : TypeId × Value → H} {W : World} {v : Value} {d : DataW H} {p : List MemPlace} (hv : Value.okWide Try.prog W .any 0 31 v) (h : DataW.Trod enc Try.prog W 0 (fun _ => true) true 31 v d p) :
    ∃ A c l, v = .slice A l.length c ∧ Lk W A l ∧ (∀ a ∈ l, True) ∧ l.length ≤ maxLen := by
  obtain ⟨A, c, l, h1, h2, h3⟩ := arg_acts hv h
  exact ⟨A, c, l, h1, h2, fun _ _ => trivial, h3⟩
end Go.Proofs.Ytdahhnefcageeaa

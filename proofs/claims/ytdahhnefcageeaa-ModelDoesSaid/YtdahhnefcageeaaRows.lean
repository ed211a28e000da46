/-
  No cell of these rows narrows 'for every input' (looked for: loops, veiled, ifaces, maps, wideKeys, modest, calm, conditions, laid).
  DERIVED. THE GIVEN ROWS OF THIS SEAT. 6 by the template 'for every input the law returns true; each argument reads behind the call as it read before'; 0 by the template 'total and deterministic' (their statements: YtdahhnefcageeaaTotals.lean).
  GIVEN WITH THE SEED: the statements are not yours to turn. If you find one false, say at which input.
  Laid BY PROGRAM, IN A SANDBOX (cutbox-rows.mjs): the forced cells as the released guide's own fill.sh prints them over the translation 27aa566e441775c3… (all of the seat's roots in one cut). By AI agents, Wed Nov 11 2026. No macro, syntax, notation, axiom, sorry.
-/
import Derived.Test.YtdahhnefcageeaaChecked
import GoSem.Claim
import GoSem.ClaimJoined
import GoSem.ClaimMapViews
import Derived.JoinedTies
import Derived.KernelRfl
namespace Go.Proofs.Ytdahhnefcageeaa
/- THE CELL 'sum', in the pinned program and in every row, IS THE sha256 OF THE DUMP (.gsa) THAT YtdahhnefcageeaaProg.lean LOADS. Nothing in Lean hashes anything: it is a label: what it is worth is what the hold of that sum in a sandbox is worth. -/
noncomputable def Try.pinned : Pinned := { name := "ytdahhnefcageeaa", sum := "27aa566e441775c3c6af95b3c0bd04cd9a4c5e99dd61e64a9fa5934a3bf37a69", checked := Try.checked }
namespace Rows
def none {H : Type} : Left H := { results := [], args := [] }

/-- 'guillochelaw14.ModelDoes': WHATEVER THE INPUT: true; the input reads as it did. -/
def modelDoesSpec : ChangeSpec := { name := "modelDoes", fn := fun _ => fun
  | [d1, d2, d3, d4] => { results := [.lit (.bool true)], args := [d1, d2, d3, d4] }
  | _ => none }
def modelDoesRow : OpenClaim := { program := "ytdahhnefcageeaa", sum := "27aa566e441775c3c6af95b3c0bd04cd9a4c5e99dd61e64a9fa5934a3bf37a69", func := "guilloche/guillochelaw14.ModelDoes", spec := "modelDoes", unfollowed := true, recurses := true, apart := false }
def ModelDoesSaid : Prop := modelDoesRow.holds Try.pinned (OpenSpec.ofChange modelDoesSpec)

/-- ITS FALSE NEIGHBOUR: 'it returns false'. Refute it at one input. -/
def modelDoesWrong : ChangeSpec := { name := "modelDoes", fn := fun _ => fun
  | [d1, d2, d3, d4] => { results := [.lit (.bool false)], args := [d1, d2, d3, d4] }
  | _ => none }
def ModelDoesWrongFalsely : Prop := modelDoesRow.holds Try.pinned (OpenSpec.ofChange modelDoesWrong)

/-- 'guillochelaw14.ModelRuns': WHATEVER THE INPUT: true; the input reads as it did. -/
def modelRunsSpec : ChangeSpec := { name := "modelRuns", fn := fun _ => fun
  | [d1, d2] => { results := [.lit (.bool true)], args := [d1, d2] }
  | _ => none }
def modelRunsRow : OpenClaim := { program := "ytdahhnefcageeaa", sum := "27aa566e441775c3c6af95b3c0bd04cd9a4c5e99dd61e64a9fa5934a3bf37a69", func := "guilloche/guillochelaw14.ModelRuns", spec := "modelRuns", unfollowed := true, recurses := true, apart := false }
def ModelRunsSaid : Prop := modelRunsRow.holds Try.pinned (OpenSpec.ofChange modelRunsSpec)

/-- ITS FALSE NEIGHBOUR: 'it returns false'. Refute it at one input. -/
def modelRunsWrong : ChangeSpec := { name := "modelRuns", fn := fun _ => fun
  | [d1, d2] => { results := [.lit (.bool false)], args := [d1, d2] }
  | _ => none }
def ModelRunsWrongFalsely : Prop := modelRunsRow.holds Try.pinned (OpenSpec.ofChange modelRunsWrong)

/-- 'guillochelaw14.ModelPins': WHATEVER THE INPUT: true; the input reads as it did. -/
def modelPinsSpec : ChangeSpec := { name := "modelPins", fn := fun _ => fun
  | [d1, d2, d3] => { results := [.lit (.bool true)], args := [d1, d2, d3] }
  | _ => none }
def modelPinsRow : OpenClaim := { program := "ytdahhnefcageeaa", sum := "27aa566e441775c3c6af95b3c0bd04cd9a4c5e99dd61e64a9fa5934a3bf37a69", func := "guilloche/guillochelaw14.ModelPins", spec := "modelPins", unfollowed := true, recurses := true, apart := false }
def ModelPinsSaid : Prop := modelPinsRow.holds Try.pinned (OpenSpec.ofChange modelPinsSpec)

/-- ITS FALSE NEIGHBOUR: 'it returns false'. Refute it at one input. -/
def modelPinsWrong : ChangeSpec := { name := "modelPins", fn := fun _ => fun
  | [d1, d2, d3] => { results := [.lit (.bool false)], args := [d1, d2, d3] }
  | _ => none }
def ModelPinsWrongFalsely : Prop := modelPinsRow.holds Try.pinned (OpenSpec.ofChange modelPinsWrong)

/-- 'guillochelaw14.ModelChanges': WHATEVER THE INPUT: true; the input reads as it did. -/
def modelChangesSpec : ChangeSpec := { name := "modelChanges", fn := fun _ => fun
  | [d1, d2] => { results := [.lit (.bool true)], args := [d1, d2] }
  | _ => none }
def modelChangesRow : OpenClaim := { program := "ytdahhnefcageeaa", sum := "27aa566e441775c3c6af95b3c0bd04cd9a4c5e99dd61e64a9fa5934a3bf37a69", func := "guilloche/guillochelaw14.ModelChanges", spec := "modelChanges", unfollowed := true, recurses := true, apart := false }
def ModelChangesSaid : Prop := modelChangesRow.holds Try.pinned (OpenSpec.ofChange modelChangesSpec)

/-- ITS FALSE NEIGHBOUR: 'it returns false'. Refute it at one input. -/
def modelChangesWrong : ChangeSpec := { name := "modelChanges", fn := fun _ => fun
  | [d1, d2] => { results := [.lit (.bool false)], args := [d1, d2] }
  | _ => none }
def ModelChangesWrongFalsely : Prop := modelChangesRow.holds Try.pinned (OpenSpec.ofChange modelChangesWrong)

/-- 'guillochelaw14.ModelWindow': WHATEVER THE INPUT: true; the input reads as it did. -/
def modelWindowSpec : ChangeSpec := { name := "modelWindow", fn := fun _ => fun
  | [d1, d2] => { results := [.lit (.bool true)], args := [d1, d2] }
  | _ => none }
def modelWindowRow : OpenClaim := { program := "ytdahhnefcageeaa", sum := "27aa566e441775c3c6af95b3c0bd04cd9a4c5e99dd61e64a9fa5934a3bf37a69", func := "guilloche/guillochelaw14.ModelWindow", spec := "modelWindow", unfollowed := true, recurses := true, apart := false }
def ModelWindowSaid : Prop := modelWindowRow.holds Try.pinned (OpenSpec.ofChange modelWindowSpec)

/-- ITS FALSE NEIGHBOUR: 'it returns false'. Refute it at one input. -/
def modelWindowWrong : ChangeSpec := { name := "modelWindow", fn := fun _ => fun
  | [d1, d2] => { results := [.lit (.bool false)], args := [d1, d2] }
  | _ => none }
def ModelWindowWrongFalsely : Prop := modelWindowRow.holds Try.pinned (OpenSpec.ofChange modelWindowWrong)

/-- 'guillochelaw14.ModelBetween': WHATEVER THE INPUT: true; the input reads as it did. -/
def modelBetweenSpec : ChangeSpec := { name := "modelBetween", fn := fun _ => fun
  | [d1, d2, d3, d4, d5] => { results := [.lit (.bool true)], args := [d1, d2, d3, d4, d5] }
  | _ => none }
def modelBetweenRow : OpenClaim := { program := "ytdahhnefcageeaa", sum := "27aa566e441775c3c6af95b3c0bd04cd9a4c5e99dd61e64a9fa5934a3bf37a69", func := "guilloche/guillochelaw14.ModelBetween", spec := "modelBetween", unfollowed := true, recurses := true, apart := false }
def ModelBetweenSaid : Prop := modelBetweenRow.holds Try.pinned (OpenSpec.ofChange modelBetweenSpec)

/-- ITS FALSE NEIGHBOUR: 'it returns false'. Refute it at one input. -/
def modelBetweenWrong : ChangeSpec := { name := "modelBetween", fn := fun _ => fun
  | [d1, d2, d3, d4, d5] => { results := [.lit (.bool false)], args := [d1, d2, d3, d4, d5] }
  | _ => none }
def ModelBetweenWrongFalsely : Prop := modelBetweenRow.holds Try.pinned (OpenSpec.ofChange modelBetweenWrong)

/- THE SECOND FORM. 'bulk': how many values and letters a reading holds, each counted each time it is reached (what is shared counts as often as it is met; a slice's spare places count too). A statement '..UptoSaid' is the law's where the arguments, and the package variables that the reading takes, are together of bulk at most 1048576: NARROWER than '..Said'. Prove '..Said' where nothing that the law and all that it calls make is longer than what came in: it says more and counts as full. Else prove '..UptoSaid'. A law counts once. -/
mutual
def uptoBulk {H : Type} : DataW H → Nat
  | .lit (.string bytes) => bytes.length + 1
  | .lit _ => 1
  | .nil => 1
  | .ptr d => uptoBulk d + 1
  | .slice elems spare => uptoBulkAll elems + uptoBulkAll spare + 1
  | .agg parts => uptoBulkAll parts + 1
  | .iface _ d => uptoBulk d + 1
  | .map entries => uptoBulkEntries entries + 1
  | .held _ => 1
def uptoBulkAll {H : Type} : List (DataW H) → Nat
  | [] => 0
  | d :: r => uptoBulk d + uptoBulkAll r
def uptoBulkEntries {H : Type} : List (Lit × DataW H) → Nat
  | [] => 0
  | x :: r => uptoBulkEntry x + uptoBulkEntries r
def uptoBulkEntry {H : Type} : Lit × DataW H → Nat
  | (.string bytes, d) => bytes.length + uptoBulk d + 1
  | (_, d) => uptoBulk d + 1
 end
def uptoSmall : (H : Type) → List (DataW H) → Bool := fun _ ds => decide (uptoBulkAll ds ≤ 1048576)
def OpenSpec.upto (s : _root_.Go.ChangeSpec) : _root_.Go.OpenSpec := { _root_.Go.OpenSpec.ofChange s with cond := some uptoSmall }

/-- 'guillochelaw14.ModelDoes', WHERE WHAT IT READS IS OF BULK AT MOST 1048576: true; the input reads as it did. -/
def modelDoesUptoRow : OpenClaim := { program := "ytdahhnefcageeaa", sum := "27aa566e441775c3c6af95b3c0bd04cd9a4c5e99dd61e64a9fa5934a3bf37a69", func := "guilloche/guillochelaw14.ModelDoes", spec := "modelDoes", unfollowed := true, recurses := true, apart := false, narrowed := true }
def ModelDoesUptoSaid : Prop := modelDoesUptoRow.holds Try.pinned (OpenSpec.upto modelDoesSpec)

/-- 'guillochelaw14.ModelRuns', WHERE WHAT IT READS IS OF BULK AT MOST 1048576: true; the input reads as it did. -/
def modelRunsUptoRow : OpenClaim := { program := "ytdahhnefcageeaa", sum := "27aa566e441775c3c6af95b3c0bd04cd9a4c5e99dd61e64a9fa5934a3bf37a69", func := "guilloche/guillochelaw14.ModelRuns", spec := "modelRuns", unfollowed := true, recurses := true, apart := false, narrowed := true }
def ModelRunsUptoSaid : Prop := modelRunsUptoRow.holds Try.pinned (OpenSpec.upto modelRunsSpec)

/-- 'guillochelaw14.ModelPins', WHERE WHAT IT READS IS OF BULK AT MOST 1048576: true; the input reads as it did. -/
def modelPinsUptoRow : OpenClaim := { program := "ytdahhnefcageeaa", sum := "27aa566e441775c3c6af95b3c0bd04cd9a4c5e99dd61e64a9fa5934a3bf37a69", func := "guilloche/guillochelaw14.ModelPins", spec := "modelPins", unfollowed := true, recurses := true, apart := false, narrowed := true }
def ModelPinsUptoSaid : Prop := modelPinsUptoRow.holds Try.pinned (OpenSpec.upto modelPinsSpec)

/-- 'guillochelaw14.ModelChanges', WHERE WHAT IT READS IS OF BULK AT MOST 1048576: true; the input reads as it did. -/
def modelChangesUptoRow : OpenClaim := { program := "ytdahhnefcageeaa", sum := "27aa566e441775c3c6af95b3c0bd04cd9a4c5e99dd61e64a9fa5934a3bf37a69", func := "guilloche/guillochelaw14.ModelChanges", spec := "modelChanges", unfollowed := true, recurses := true, apart := false, narrowed := true }
def ModelChangesUptoSaid : Prop := modelChangesUptoRow.holds Try.pinned (OpenSpec.upto modelChangesSpec)

/-- 'guillochelaw14.ModelWindow', WHERE WHAT IT READS IS OF BULK AT MOST 1048576: true; the input reads as it did. -/
def modelWindowUptoRow : OpenClaim := { program := "ytdahhnefcageeaa", sum := "27aa566e441775c3c6af95b3c0bd04cd9a4c5e99dd61e64a9fa5934a3bf37a69", func := "guilloche/guillochelaw14.ModelWindow", spec := "modelWindow", unfollowed := true, recurses := true, apart := false, narrowed := true }
def ModelWindowUptoSaid : Prop := modelWindowUptoRow.holds Try.pinned (OpenSpec.upto modelWindowSpec)

/-- 'guillochelaw14.ModelBetween', WHERE WHAT IT READS IS OF BULK AT MOST 1048576: true; the input reads as it did. -/
def modelBetweenUptoRow : OpenClaim := { program := "ytdahhnefcageeaa", sum := "27aa566e441775c3c6af95b3c0bd04cd9a4c5e99dd61e64a9fa5934a3bf37a69", func := "guilloche/guillochelaw14.ModelBetween", spec := "modelBetween", unfollowed := true, recurses := true, apart := false, narrowed := true }
def ModelBetweenUptoSaid : Prop := modelBetweenUptoRow.holds Try.pinned (OpenSpec.upto modelBetweenSpec)

end Rows
end Go.Proofs.Ytdahhnefcageeaa

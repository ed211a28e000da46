import Derived.Test.YtgeonbkoihegnaaDoorShaWorks
import Derived.ProofKit
import Derived.LaidMore
import Derived.OpenShut
import Derived.Stop.Joined
import Derived.Lib.LaidTab
namespace Go.Proofs.YtgeonbkoihegnaaDoor
open Go.ChangeShapes Go.WideShapes Go.ChangeAt Go.RowKit
theorem own : ownKnob Tryd.prog.godebug = none := by kernel_rfl
theorem gStart : Tryd.prog.globalNamed "guilloche/sha.start" = some 0 := by kernel_rfl
theorem gAdded : Tryd.prog.globalNamed "guilloche/sha.added" = some 1 := by kernel_rfl
theorem tStart : (Tryd.prog.globals[0]?).map (·.type) = some 65 := by kernel_rfl
theorem tAdded : (Tryd.prog.globals[1]?).map (·.type) = some 89 := by kernel_rfl
theorem block_of_var {W : World} {n : String} {g : Nat} {cs : Array Value} (hg : Tryd.prog.globalNamed n = some g) (h : W.var? Tryd.prog n = some cs) : ∃ t fr, W.heap[g]? = some (.cells cs t fr) := by
  simp only [World.var?, hg, Option.bind_some] at h
  split at h
  · next c t fr heq => cases h; exact ⟨t, fr, heq⟩
  · cases h
theorem vals_of (l : List UInt32) (cs : Array Value) (h : cs.toList = (l.map fun z => (z.toNat : Int)).map fun z => Value.int .u32 z) : cs = wordVals (fun i => l.getD i 0) l.length := by
  apply Array.toList_inj.1
  rw [h, wordVals]
  apply List.ext_getElem
  · simp
  · intro i h1 h2
    simp at h1
    simp [h1]
/-- What the listed variables hold. -/
theorem laid_of {W : World} (h : laidMetH Tryd.prog Rows.shaHexRow.laid W) : Laid W := by
  rw [MakeChecks.laidMetH_plain _ _ _ (by kernel_rfl)] at h
  obtain ⟨ps, ⟨g0, t0, cs0, f0, p0, q0, hg0, ht0, hv0, hd0, ⟨g1, t1, cs1, f1, p1, q1, hg1, ht1, hv1, hd1, _, _⟩, _⟩, _, _⟩ := h
  obtain rfl := Option.some.inj (gStart.symm.trans hg0)
  obtain rfl := Option.some.inj (gAdded.symm.trans hg1)
  obtain rfl := Option.some.inj (tStart.symm.trans ht0)
  obtain rfl := Option.some.inj (tAdded.symm.trans ht1)
  have e0 := Lib.cells_of_tab (zs := Sha.start.map fun z => (z.toNat : Int)) Tryd.underlying65 Tryd.underlying64 (by kernel_rfl) (by kernel_rfl) hd0
  have e1 := Lib.cells_of_tab (zs := Sha.added.map fun z => (z.toNat : Int)) Tryd.underlying89 Tryd.underlying64 (by kernel_rfl) (by kernel_rfl) hd1
  obtain ⟨a0, b0, h0⟩ := block_of_var gStart hv0
  obtain ⟨a1, b1, h1⟩ := block_of_var gAdded hv1
  refine ⟨⟨a0, b0, ?_⟩, ⟨a1, b1, ?_⟩⟩
  · rw [h0, vals_of Sha.start cs0 e0]; rfl
  · rw [h1, vals_of Sha.added cs1 e1]; rfl
/-- The door's own heap meets the condition. -/
theorem door_met (os : Os) (args : Array Value) : laidMetH Tryd.prog Rows.shaHexRow.laid ((World.doorLaid Tryd.prog 400 os).forCall (fun _ _ => 0) ⟨#[], args, []⟩).memory :=
  laidMetH_of_parts3 (fuel := 8) (laidMet_of_run' 8 (by kernel_rfl) (by kernel_rfl)) (by kernel_rfl) (by kernel_rfl)
end Go.Proofs.YtgeonbkoihegnaaDoor

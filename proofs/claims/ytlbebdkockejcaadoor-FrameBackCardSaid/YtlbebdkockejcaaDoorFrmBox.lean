/-
  Boxes, one behind the other; structs that a call hands back.
-/
import Derived.Test.YtlbebdkockejcaaDoorGaFar
import Derived.Test.YtlbebdkockejcaaDoorRowK
namespace Go.Proofs.YtlbebdkockejcaaDoor
open Go.RowKit
set_option linter.unusedVariables false
set_option linter.unusedSimpArgs false
theorem load_blkL {w : World} {g : Nat} {T : TypeId} (cs : List Value) (hf : Blk w g T cs.toArray) : (loadCells ⟨g, 0, none⟩ cs.length).run Tryd.prog w = .ok cs.toArray w := by
  have := run_loadCells_list (P := Tryd.prog) w ⟨g, 0, none⟩ cs (fun j v hj => by
    have h := hf.cell j
    have e : (⟨g, 0, none⟩ : Addr).add j = ⟨g, j, none⟩ := by
      unfold Addr.add
      by_cases hj0 : j = 0
      · subst hj0; rfl
      · simp [hj0]
    rw [e, h]
    simpa using hj)
  simpa using this
theorem results_b1 {fn : Func} {s : Tmp} {ty : TypeId} (h : fn.results = #[.cell s ty]) (hA : ∀ w : World, (isAgg ty).run Tryd.prog w = .ok true w) {k : Nat} (hS : ∀ w : World, (sizeOf ty).run Tryd.prog w = .ok k w) (tmps : Array Value) (w : World) (g : Nat) (h4 : tmps[s]?.getD undef = .pointer (some ⟨g, 0, none⟩)) {T : TypeId} {cs : List Value} (hf : Blk w g T cs.toArray) (hk : cs.length = k) :
    (results fn tmps).run Tryd.prog w = .ok (.agg cs.toArray) w := by
  subst hk
  simp [results, h, h4, loadVar, hA, hS, asAddr, load_blkL cs hf, Result.andThen]
theorem results_b2 {fn : Func} {s s5 : Tmp} {ty : TypeId} (h : fn.results = #[.cell s ty, .tmp s5]) (hA : ∀ w : World, (isAgg ty).run Tryd.prog w = .ok true w) {k : Nat} (hS : ∀ w : World, (sizeOf ty).run Tryd.prog w = .ok k w) (tmps : Array Value) (w : World) (g : Nat) (h4 : tmps[s]?.getD undef = .pointer (some ⟨g, 0, none⟩)) {y : Value} (h5 : tmps[s5]?.getD undef = y) {T : TypeId} {cs : List Value} (hf : Blk w g T cs.toArray) (hk : cs.length = k) :
    (results fn tmps).run Tryd.prog w = .ok (.tuple #[.agg cs.toArray, y]) w := by
  subst hk
  simp [results, h, h4, h5, loadVar, hA, hS, asAddr, load_blkL cs hf, Result.andThen]
theorem box_new (w : World) (T : TypeId) (cs : Array Value) : ∃ W g, W = w.alloc (.cells cs T) ∧ g = w.heap.size ∧ Below w.heap.size w W ∧ Blk W g T cs ∧ W.heap.size = g + 1 :=
  ⟨_, _, rfl, rfl, (Below.refl _ _).alloc (Nat.le_refl _) _, Blk.new _ _ _, by simp⟩
theorem boxes2 (w : World) (T0 T1 : TypeId) (c0 c1 : Array Value) : ∃ (W : World) (g0 g1 : Nat), W = ((w.alloc (.cells c0 T0)).alloc (.cells c1 T1)) ∧ g0 = w.heap.size ∧ g1 = w.heap.size + 1 ∧ Below w.heap.size w W ∧ Blk W g0 T0 c0 ∧ Blk W g1 T1 c1 ∧ W.heap.size = w.heap.size + 1 + 1 := by
  have h0 := Blk.new w T0 c0
  have h1 := Blk.new (w.alloc (.cells c0 T0)) T1 c1
  simp only [World.size_alloc] at h0 h1
  exact ⟨_, _, _, rfl, rfl, rfl, ((Bl.start w) |>.alloc _ |>.alloc _).1, (h0).alloc (.cells c1 T1), h1, by simp⟩
theorem boxes3 (w : World) (T0 T1 T2 : TypeId) (c0 c1 c2 : Array Value) : ∃ (W : World) (g0 g1 g2 : Nat), W = (((w.alloc (.cells c0 T0)).alloc (.cells c1 T1)).alloc (.cells c2 T2)) ∧ g0 = w.heap.size ∧ g1 = w.heap.size + 1 ∧ g2 = w.heap.size + 1 + 1 ∧ Below w.heap.size w W ∧ Blk W g0 T0 c0 ∧ Blk W g1 T1 c1 ∧ Blk W g2 T2 c2 ∧ W.heap.size = w.heap.size + 1 + 1 + 1 := by
  have h0 := Blk.new w T0 c0
  have h1 := Blk.new (w.alloc (.cells c0 T0)) T1 c1
  have h2 := Blk.new ((w.alloc (.cells c0 T0)).alloc (.cells c1 T1)) T2 c2
  simp only [World.size_alloc] at h0 h1 h2
  exact ⟨_, _, _, _, rfl, rfl, rfl, rfl, ((Bl.start w) |>.alloc _ |>.alloc _ |>.alloc _).1, ((h0).alloc (.cells c1 T1)).alloc (.cells c2 T2), (h1).alloc (.cells c2 T2), h2, by simp⟩
theorem boxes4 (w : World) (T0 T1 T2 T3 : TypeId) (c0 c1 c2 c3 : Array Value) : ∃ (W : World) (g0 g1 g2 g3 : Nat), W = ((((w.alloc (.cells c0 T0)).alloc (.cells c1 T1)).alloc (.cells c2 T2)).alloc (.cells c3 T3)) ∧ g0 = w.heap.size ∧ g1 = w.heap.size + 1 ∧ g2 = w.heap.size + 1 + 1 ∧ g3 = w.heap.size + 1 + 1 + 1 ∧ Below w.heap.size w W ∧ Blk W g0 T0 c0 ∧ Blk W g1 T1 c1 ∧ Blk W g2 T2 c2 ∧ Blk W g3 T3 c3 ∧ W.heap.size = w.heap.size + 1 + 1 + 1 + 1 := by
  have h0 := Blk.new w T0 c0
  have h1 := Blk.new (w.alloc (.cells c0 T0)) T1 c1
  have h2 := Blk.new ((w.alloc (.cells c0 T0)).alloc (.cells c1 T1)) T2 c2
  have h3 := Blk.new (((w.alloc (.cells c0 T0)).alloc (.cells c1 T1)).alloc (.cells c2 T2)) T3 c3
  simp only [World.size_alloc] at h0 h1 h2 h3
  exact ⟨_, _, _, _, _, rfl, rfl, rfl, rfl, rfl, ((Bl.start w) |>.alloc _ |>.alloc _ |>.alloc _ |>.alloc _).1, (((h0).alloc (.cells c1 T1)).alloc (.cells c2 T2)).alloc (.cells c3 T3), ((h1).alloc (.cells c2 T2)).alloc (.cells c3 T3), (h2).alloc (.cells c3 T3), h3, by simp⟩
theorem boxes5 (w : World) (T0 T1 T2 T3 T4 : TypeId) (c0 c1 c2 c3 c4 : Array Value) : ∃ (W : World) (g0 g1 g2 g3 g4 : Nat), W = (((((w.alloc (.cells c0 T0)).alloc (.cells c1 T1)).alloc (.cells c2 T2)).alloc (.cells c3 T3)).alloc (.cells c4 T4)) ∧ g0 = w.heap.size ∧ g1 = w.heap.size + 1 ∧ g2 = w.heap.size + 1 + 1 ∧ g3 = w.heap.size + 1 + 1 + 1 ∧ g4 = w.heap.size + 1 + 1 + 1 + 1 ∧ Below w.heap.size w W ∧ Blk W g0 T0 c0 ∧ Blk W g1 T1 c1 ∧ Blk W g2 T2 c2 ∧ Blk W g3 T3 c3 ∧ Blk W g4 T4 c4 ∧ W.heap.size = w.heap.size + 1 + 1 + 1 + 1 + 1 := by
  have h0 := Blk.new w T0 c0
  have h1 := Blk.new (w.alloc (.cells c0 T0)) T1 c1
  have h2 := Blk.new ((w.alloc (.cells c0 T0)).alloc (.cells c1 T1)) T2 c2
  have h3 := Blk.new (((w.alloc (.cells c0 T0)).alloc (.cells c1 T1)).alloc (.cells c2 T2)) T3 c3
  have h4 := Blk.new ((((w.alloc (.cells c0 T0)).alloc (.cells c1 T1)).alloc (.cells c2 T2)).alloc (.cells c3 T3)) T4 c4
  simp only [World.size_alloc] at h0 h1 h2 h3 h4
  exact ⟨_, _, _, _, _, _, rfl, rfl, rfl, rfl, rfl, rfl, ((Bl.start w) |>.alloc _ |>.alloc _ |>.alloc _ |>.alloc _ |>.alloc _).1, ((((h0).alloc (.cells c1 T1)).alloc (.cells c2 T2)).alloc (.cells c3 T3)).alloc (.cells c4 T4), (((h1).alloc (.cells c2 T2)).alloc (.cells c3 T3)).alloc (.cells c4 T4), ((h2).alloc (.cells c3 T3)).alloc (.cells c4 T4), (h3).alloc (.cells c4 T4), h4, by simp⟩
end Go.Proofs.YtlbebdkockejcaaDoor

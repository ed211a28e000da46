/-
  PROVED HERE: the law NodeBack returns true for every input (what is put is got again, and nothing else is: of any node, and of any bytes; of nodes and bytes that are longer than the law's bounds the law asks nothing). What sha's tables and errors.errorType hold is as the program lays it (tied).
-/
import Derived.Test.YtljadanalcfdeaaDoorGaNodeD
import Derived.Test.YtljadanalcfdeaaDoorCards
import Derived.Test.YtljadanalcfdeaaDoorTie
import Derived.WalkKit
import Derived.ProofKit
import Derived.LaidMore
import Derived.OpenShut
import Derived.ShutString
import Derived.ChangeOld
import Derived.Below
import Derived.Stop.Joined
import Derived.SevenTiedAt
namespace Go.Proofs.YtljadanalcfdeaaDoor.nodeBack
open Go.ChangeShapes Go.WideShapes Go.ChangeAt Go.RowKit Go.Proofs.Nod
open Go.ChangeMaps (open_string shut_string)
set_option linter.unusedVariables false
set_option linter.unusedSimpArgs false
set_option maxRecDepth 100000 in
set_option maxHeartbeats 32000000 in
theorem walk (a0 : Nd) (a1 : ByteArray) (w0 : NdOk a0) (w1 : a1.size ≤ maxLen) (w : World) (hl : LaidN w) :
    Calls Tryd.prog 3 #[.agg (ndC a0), .string a1] w fun e w' => e = .returned (.bool true) ∧ Below w.heap.size w w' := by
  have WK := Lib.hid (fun W h => nworks_any W h)
  have LA : Hid (∀ W, Below w.heap.size w W → LaidN W) := Lib.hid (fun W h => hl.on h)
  have few := fun W => few_any a0 W (fun i hi => w0.each _ (rf_mem a0 i hi)) w0.path w0.value
  have h16 := w0.refs
  obtain ⟨CS, hCS⟩ : ∃ z, z = ndC a0 := ⟨_, rfl⟩
  have NCS := Lib.hid (show Ndc CS by rw [hCS]; exact .of _)
  obtain ⟨Z0, hZ0⟩ : ∃ z, z = ndC zeroN := ⟨_, rfl⟩
  have NZ := Lib.hid (show Ndc Z0 by rw [hZ0]; exact .of _)
  have HZ := Lib.hid hZ0
  have HCS := Lib.hid hCS
  have GET0 := Lib.hid (fun W h => by have := wk_geta e0 (by decide) W h; rw [wk_none] at this; exact (hZ0 ▸ this : Calls Tryd.prog 11 #[.string e0] W fun e w' => e = .returned (.tuple #[.agg Z0, .int .i64 2]) ∧ Below W.heap.size W w'))
  rw [← hCS] at few ⊢
  unfold maxLen at w1
  rcases hfw : fewB a0 with _ | _
  · rw [hfw] at few
    have FEW := Lib.hid few
    clear hl few hCS hZ0 hfw w0 h16
    have B0 := Lib.hid (Bl.start w)
    have K1 := Lib.hid (by have := Blk.new (w) 25 CS; simpa using this : Blk ((w).alloc (.cells CS 25)) w.heap.size 25 CS)
    have B2 := Lib.hid (B0.out.alloc (.cells CS 25))
    go_enter Tryd.func3, Tryd.ntmps3
    go_upto_region 1 with (fail)
    generalize w.alloc (.cells CS 25) = W3 at K1 B2 ⊢
    refine wp_region_lit (Segs.WL.out ?_)
    refine Segs.WL.call (some 15) 8 #[] _ rfl (by kernel_rfl) (by kernel_rfl) (WK.out W3 (LA.out _ B2.out.1)) (fun e W4 hR => ?_)
    obtain ⟨rfl, hb⟩ := hR
    refine ⟨_, rfl, ?_⟩
    simp only [Act.put, List.setIfInBounds_toArray, List.set_cons_zero, List.set_cons_succ]
    have K5 := Lib.hid (K1.out.below hb)
    have B6 := Lib.hid (B2.out.call hb)
    clear hb
    refine Segs.WL.val (some 5) (.bool true) W4 rfl (by kernel_rfl) (by kernel_rfl) ?_
    simp only [Act.put, List.setIfInBounds_toArray, List.set_cons_zero, List.set_cons_succ]
    refine Segs.WL.nil ?_
    go_upto_region 2 with (fail)
    refine wp_region_lit (Segs.WL.out ?_)
    refine Segs.WL.val (some 16) (.bool true) W4 rfl (by kernel_rfl) (by kernel_rfl) ?_
    simp only [Act.put, List.setIfInBounds_toArray, List.set_cons_zero, List.set_cons_succ]
    refine Segs.WL.val (some 17) (.bool false) W4 rfl (by kernel_rfl) (by kernel_rfl) ?_
    simp only [Act.put, List.setIfInBounds_toArray, List.set_cons_zero, List.set_cons_succ]
    refine Segs.WL.nil ?_
    go_upto_region 4 with (fail)
    refine wp_region_lit (Segs.WL.out ?_)
    refine Segs.WL.val (some 18) (.agg CS) W4 rfl (by kernel_rfl) (Segs.run_row 25 (.tmp 2) rfl w.heap.size (by kernel_rfl) 25 CS _ K5.out Tryd.underlying25 rfl (info19 (NCS.out.size))) ?_
    simp only [Act.put, List.setIfInBounds_toArray, List.set_cons_zero, List.set_cons_succ]
    refine Segs.WL.call (some 19) 9 #[.agg CS] _ rfl (by kernel_rfl) (by kernel_rfl) (FEW.out W4) (fun e W7 hR => ?_)
    obtain ⟨rfl, hb⟩ := hR
    refine ⟨_, rfl, ?_⟩
    simp only [Act.put, List.setIfInBounds_toArray, List.set_cons_zero, List.set_cons_succ]
    have K8 := Lib.hid (K5.out.below hb)
    have B9 := Lib.hid (B6.out.call hb)
    clear hb
    refine Segs.WL.val (some 6) (.bool false) W7 rfl (by kernel_rfl) (by kernel_rfl) ?_
    simp only [Act.put, List.setIfInBounds_toArray, List.set_cons_zero, List.set_cons_succ]
    refine Segs.WL.nil ?_
    go_upto_region 5 with (fail)
    refine wp_region_lit (Segs.WL.out ?_)
    refine Segs.WL.val (some 20) (.bool false) W7 rfl (by kernel_rfl) (by kernel_rfl) ?_
    simp only [Act.put, List.setIfInBounds_toArray, List.set_cons_zero, List.set_cons_succ]
    refine Segs.WL.val (some 21) (.bool true) W7 rfl (by kernel_rfl) (by kernel_rfl) ?_
    simp only [Act.put, List.setIfInBounds_toArray, List.set_cons_zero, List.set_cons_succ]
    refine Segs.WL.val (some 22) (.bool true) W7 rfl (by kernel_rfl) (by kernel_rfl) ?_
    simp only [Act.put, List.setIfInBounds_toArray, List.set_cons_zero, List.set_cons_succ]
    refine Segs.WL.not (some 23) rfl (by kernel_rfl) ?_
    simp only [Act.put, List.setIfInBounds_toArray, List.set_cons_zero, List.set_cons_succ]
    refine Segs.WL.not (some 24) rfl (by kernel_rfl) ?_
    simp only [Act.put, List.setIfInBounds_toArray, List.set_cons_zero, List.set_cons_succ]
    refine Segs.WL.not (some 25) rfl (by kernel_rfl) ?_
    simp only [Act.put, List.setIfInBounds_toArray, List.set_cons_zero, List.set_cons_succ]
    refine Segs.WL.val (some 26) (.bool true) W7 rfl (by kernel_rfl) (by kernel_rfl) ?_
    simp only [Act.put, List.setIfInBounds_toArray, List.set_cons_zero, List.set_cons_succ]
    refine Segs.WL.nil ?_
    go_wp2_with fail
    go_ret
    exact ⟨rfl, B9.out.1⟩
  · rw [hfw] at few
    have FEW := Lib.hid few
    have hff := few_facts hfw
    by_cases hlen : 1000 < a1.size
    · have HLEN := Lib.hid (show decide ((1000 : Int) < (a1.size : Int)) = true by simp; omega)
      clear hl few hCS hZ0 hfw w0 h16 hff hlen
      have B0 := Lib.hid (Bl.start w)
      have K1 := Lib.hid (by have := Blk.new (w) 25 CS; simpa using this : Blk ((w).alloc (.cells CS 25)) w.heap.size 25 CS)
      have B2 := Lib.hid (B0.out.alloc (.cells CS 25))
      go_enter Tryd.func3, Tryd.ntmps3
      go_upto_region 1 with (fail)
      generalize w.alloc (.cells CS 25) = W3 at K1 B2 ⊢
      refine wp_region_lit (Segs.WL.out ?_)
      refine Segs.WL.call (some 15) 8 #[] _ rfl (by kernel_rfl) (by kernel_rfl) (WK.out W3 (LA.out _ B2.out.1)) (fun e W4 hR => ?_)
      obtain ⟨rfl, hb⟩ := hR
      refine ⟨_, rfl, ?_⟩
      simp only [Act.put, List.setIfInBounds_toArray, List.set_cons_zero, List.set_cons_succ]
      have K5 := Lib.hid (K1.out.below hb)
      have B6 := Lib.hid (B2.out.call hb)
      clear hb
      refine Segs.WL.val (some 5) (.bool true) W4 rfl (by kernel_rfl) (by kernel_rfl) ?_
      simp only [Act.put, List.setIfInBounds_toArray, List.set_cons_zero, List.set_cons_succ]
      refine Segs.WL.nil ?_
      go_upto_region 2 with (fail)
      refine wp_region_lit (Segs.WL.out ?_)
      refine Segs.WL.val (some 16) (.bool true) W4 rfl (by kernel_rfl) (by kernel_rfl) ?_
      simp only [Act.put, List.setIfInBounds_toArray, List.set_cons_zero, List.set_cons_succ]
      refine Segs.WL.val (some 17) (.bool false) W4 rfl (by kernel_rfl) (by kernel_rfl) ?_
      simp only [Act.put, List.setIfInBounds_toArray, List.set_cons_zero, List.set_cons_succ]
      refine Segs.WL.nil ?_
      go_upto_region 4 with (fail)
      refine wp_region_lit (Segs.WL.out ?_)
      refine Segs.WL.val (some 18) (.agg CS) W4 rfl (by kernel_rfl) (Segs.run_row 25 (.tmp 2) rfl w.heap.size (by kernel_rfl) 25 CS _ K5.out Tryd.underlying25 rfl (info19 (NCS.out.size))) ?_
      simp only [Act.put, List.setIfInBounds_toArray, List.set_cons_zero, List.set_cons_succ]
      refine Segs.WL.call (some 19) 9 #[.agg CS] _ rfl (by kernel_rfl) (by kernel_rfl) (FEW.out W4) (fun e W7 hR => ?_)
      obtain ⟨rfl, hb⟩ := hR
      refine ⟨_, rfl, ?_⟩
      simp only [Act.put, List.setIfInBounds_toArray, List.set_cons_zero, List.set_cons_succ]
      have K8 := Lib.hid (K5.out.below hb)
      have B9 := Lib.hid (B6.out.call hb)
      clear hb
      refine Segs.WL.val (some 6) (.bool true) W7 rfl (by kernel_rfl) (by kernel_rfl) ?_
      simp only [Act.put, List.setIfInBounds_toArray, List.set_cons_zero, List.set_cons_succ]
      refine Segs.WL.nil ?_
      go_upto_region 5 with (fail)
      refine wp_region_lit (Segs.WL.out ?_)
      refine Segs.WL.val (some 20) (.bool true) W7 rfl (by kernel_rfl) (by kernel_rfl) ?_
      simp only [Act.put, List.setIfInBounds_toArray, List.set_cons_zero, List.set_cons_succ]
      refine Segs.WL.val (some 21) (.bool false) W7 rfl (by kernel_rfl) (by kernel_rfl) ?_
      simp only [Act.put, List.setIfInBounds_toArray, List.set_cons_zero, List.set_cons_succ]
      refine Segs.WL.val (some 22) (.bool false) W7 rfl (by kernel_rfl) (by kernel_rfl) ?_
      simp only [Act.put, List.setIfInBounds_toArray, List.set_cons_zero, List.set_cons_succ]
      refine Segs.WL.val (some 23) (.string a1) W7 rfl (by kernel_rfl) (by kernel_rfl) ?_
      simp only [Act.put, List.setIfInBounds_toArray, List.set_cons_zero, List.set_cons_succ]
      refine Segs.WL.val (some 24) (.int .i64 (a1.size)) W7 rfl (by kernel_rfl) (by kernel_rfl) ?_
      simp only [Act.put, List.setIfInBounds_toArray, List.set_cons_zero, List.set_cons_succ]
      refine Segs.WL.val (some 25) (.bool (decide ((1000 : Int) < (a1.size : Int)))) W7 rfl (by kernel_rfl) (by kernel_rfl) ?_
      simp only [Act.put, List.setIfInBounds_toArray, List.set_cons_zero, List.set_cons_succ]
      rw [HLEN.out]
      refine Segs.WL.val (some 26) (.bool true) W7 rfl (by kernel_rfl) (by kernel_rfl) ?_
      simp only [Act.put, List.setIfInBounds_toArray, List.set_cons_zero, List.set_cons_succ]
      refine Segs.WL.nil ?_
      go_wp2_with fail
      go_ret
      exact ⟨rfl, B9.out.1⟩
    · have HLEN := Lib.hid (show decide ((1000 : Int) < (a1.size : Int)) = false by simp; omega)
      have hsz : ∀ r ∈ rfs a0, r.size ≤ 10000 := fun r hr => Nat.le_trans (hff.1 r hr) (by decide)
      have val := fun W h => wk_valid a0 h16 W h
      have put := fun W h => put_all a0 W h16 (fun r _ h => get_any r (by omega)) h
      have get1 := fun W h => wk_geta a1 (by omega) W h
      unfold Ptd putB at put
      rw [← hCS] at put val
      have H16 := Lib.hid h16
      rcases hg : gB a1 with _ | o
      · rw [hg] at get1
        have GET1 := Lib.hid (fun W h => (hZ0 ▸ get1 W h : Calls Tryd.prog 11 #[.string a1] W fun e w' => e = .returned (.tuple #[.agg Z0, .int .i64 2]) ∧ Below W.heap.size W w'))
        rcases hv : validB a0 with _ | _
        · rw [hv] at put val
          simp only [Bool.false_eq_true, if_false] at put
          have PUT := Lib.hid put
          have VAL := Lib.hid val
          clear hl few hCS hZ0 hfw w0 h16 hff hlen hsz val put get1 hg hv
          have B0 := Lib.hid (Bl.start w)
          have K1 := Lib.hid (by have := Blk.new (w) 25 CS; simpa using this : Blk ((w).alloc (.cells CS 25)) w.heap.size 25 CS)
          have B2 := Lib.hid (B0.out.alloc (.cells CS 25))
          go_enter Tryd.func3, Tryd.ntmps3
          go_upto_region 1 with (fail)
          generalize w.alloc (.cells CS 25) = W3 at K1 B2 ⊢
          refine wp_region_lit (Segs.WL.out ?_)
          refine Segs.WL.call (some 15) 8 #[] _ rfl (by kernel_rfl) (by kernel_rfl) (WK.out W3 (LA.out _ B2.out.1)) (fun e W4 hR => ?_)
          obtain ⟨rfl, hb⟩ := hR
          refine ⟨_, rfl, ?_⟩
          simp only [Act.put, List.setIfInBounds_toArray, List.set_cons_zero, List.set_cons_succ]
          have K5 := Lib.hid (K1.out.below hb)
          have B6 := Lib.hid (B2.out.call hb)
          clear hb
          refine Segs.WL.val (some 5) (.bool true) W4 rfl (by kernel_rfl) (by kernel_rfl) ?_
          simp only [Act.put, List.setIfInBounds_toArray, List.set_cons_zero, List.set_cons_succ]
          refine Segs.WL.nil ?_
          go_upto_region 2 with (fail)
          refine wp_region_lit (Segs.WL.out ?_)
          refine Segs.WL.val (some 16) (.bool true) W4 rfl (by kernel_rfl) (by kernel_rfl) ?_
          simp only [Act.put, List.setIfInBounds_toArray, List.set_cons_zero, List.set_cons_succ]
          refine Segs.WL.val (some 17) (.bool false) W4 rfl (by kernel_rfl) (by kernel_rfl) ?_
          simp only [Act.put, List.setIfInBounds_toArray, List.set_cons_zero, List.set_cons_succ]
          refine Segs.WL.nil ?_
          go_upto_region 4 with (fail)
          refine wp_region_lit (Segs.WL.out ?_)
          refine Segs.WL.val (some 18) (.agg CS) W4 rfl (by kernel_rfl) (Segs.run_row 25 (.tmp 2) rfl w.heap.size (by kernel_rfl) 25 CS _ K5.out Tryd.underlying25 rfl (info19 (NCS.out.size))) ?_
          simp only [Act.put, List.setIfInBounds_toArray, List.set_cons_zero, List.set_cons_succ]
          refine Segs.WL.call (some 19) 9 #[.agg CS] _ rfl (by kernel_rfl) (by kernel_rfl) (FEW.out W4) (fun e W7 hR => ?_)
          obtain ⟨rfl, hb⟩ := hR
          refine ⟨_, rfl, ?_⟩
          simp only [Act.put, List.setIfInBounds_toArray, List.set_cons_zero, List.set_cons_succ]
          have K8 := Lib.hid (K5.out.below hb)
          have B9 := Lib.hid (B6.out.call hb)
          clear hb
          refine Segs.WL.val (some 6) (.bool true) W7 rfl (by kernel_rfl) (by kernel_rfl) ?_
          simp only [Act.put, List.setIfInBounds_toArray, List.set_cons_zero, List.set_cons_succ]
          refine Segs.WL.nil ?_
          go_upto_region 5 with (fail)
          refine wp_region_lit (Segs.WL.out ?_)
          refine Segs.WL.val (some 20) (.bool true) W7 rfl (by kernel_rfl) (by kernel_rfl) ?_
          simp only [Act.put, List.setIfInBounds_toArray, List.set_cons_zero, List.set_cons_succ]
          refine Segs.WL.val (some 21) (.bool false) W7 rfl (by kernel_rfl) (by kernel_rfl) ?_
          simp only [Act.put, List.setIfInBounds_toArray, List.set_cons_zero, List.set_cons_succ]
          refine Segs.WL.val (some 22) (.bool false) W7 rfl (by kernel_rfl) (by kernel_rfl) ?_
          simp only [Act.put, List.setIfInBounds_toArray, List.set_cons_zero, List.set_cons_succ]
          refine Segs.WL.val (some 23) (.string a1) W7 rfl (by kernel_rfl) (by kernel_rfl) ?_
          simp only [Act.put, List.setIfInBounds_toArray, List.set_cons_zero, List.set_cons_succ]
          refine Segs.WL.val (some 24) (.int .i64 (a1.size)) W7 rfl (by kernel_rfl) (by kernel_rfl) ?_
          simp only [Act.put, List.setIfInBounds_toArray, List.set_cons_zero, List.set_cons_succ]
          refine Segs.WL.val (some 25) (.bool (decide ((1000 : Int) < (a1.size : Int)))) W7 rfl (by kernel_rfl) (by kernel_rfl) ?_
          simp only [Act.put, List.setIfInBounds_toArray, List.set_cons_zero, List.set_cons_succ]
          rw [HLEN.out]
          refine Segs.WL.val (some 26) (.bool false) W7 rfl (by kernel_rfl) (by kernel_rfl) ?_
          simp only [Act.put, List.setIfInBounds_toArray, List.set_cons_zero, List.set_cons_succ]
          refine Segs.WL.nil ?_
          go_upto_region 7 with (fail)
          refine wp_region_lit (Segs.WL.out ?_)
          refine Segs.WL.val (some 29) (.agg CS) W7 rfl (by kernel_rfl) (Segs.run_row 25 (.tmp 2) rfl w.heap.size (by kernel_rfl) 25 CS _ K8.out Tryd.underlying25 rfl (info19 (NCS.out.size))) ?_
          simp only [Act.put, List.setIfInBounds_toArray, List.set_cons_zero, List.set_cons_succ]
          refine Segs.WL.call (some 30) 10 #[.agg CS] _ rfl (by kernel_rfl) (by kernel_rfl) (PUT.out W7 (LA.out _ B9.out.1).err) (fun e W10 hR => ?_)
          obtain ⟨rfl, hb⟩ := hR
          refine ⟨_, rfl, ?_⟩
          simp only [Act.put, List.setIfInBounds_toArray, List.set_cons_zero, List.set_cons_succ]
          have K11 := Lib.hid (K8.out.below hb)
          have B12 := Lib.hid (B9.out.call hb)
          clear hb
          refine Segs.WL.val (some 28) (.tuple #[.string e0, .int .i64 1]) W10 rfl (by kernel_rfl) (by kernel_rfl) ?_
          simp only [Act.put, List.setIfInBounds_toArray, List.set_cons_zero, List.set_cons_succ]
          refine Segs.WL.val (some 31) (.string e0) W10 rfl (by kernel_rfl) (by kernel_rfl) ?_
          simp only [Act.put, List.setIfInBounds_toArray, List.set_cons_zero, List.set_cons_succ]
          refine Segs.WL.val (some 32) (.int .i64 1) W10 rfl (by kernel_rfl) (by kernel_rfl) ?_
          simp only [Act.put, List.setIfInBounds_toArray, List.set_cons_zero, List.set_cons_succ]
          refine Segs.WL.val (some 7) (.string e0) W10 rfl (by kernel_rfl) (by kernel_rfl) ?_
          simp only [Act.put, List.setIfInBounds_toArray, List.set_cons_zero, List.set_cons_succ]
          refine Segs.WL.val (some 8) (.int .i64 1) W10 rfl (by kernel_rfl) (by kernel_rfl) ?_
          simp only [Act.put, List.setIfInBounds_toArray, List.set_cons_zero, List.set_cons_succ]
          refine Segs.WL.nil ?_
          go_upto_region 8 with (fail)
          refine wp_region_lit (Segs.WL.out ?_)
          refine Segs.WL.val (some 34) (.string e0) W10 rfl (by kernel_rfl) (by kernel_rfl) ?_
          simp only [Act.put, List.setIfInBounds_toArray, List.set_cons_zero, List.set_cons_succ]
          refine Segs.WL.call (some 35) 11 #[.string e0] _ rfl (by kernel_rfl) (by kernel_rfl) (GET0.out W10 (LA.out _ B12.out.1).err) (fun e W13 hR => ?_)
          obtain ⟨rfl, hb⟩ := hR
          refine ⟨_, rfl, ?_⟩
          simp only [Act.put, List.setIfInBounds_toArray, List.set_cons_zero, List.set_cons_succ]
          have K14 := Lib.hid (K11.out.below hb)
          have B15 := Lib.hid (B12.out.call hb)
          clear hb
          refine Segs.WL.val (some 33) (.tuple #[.agg Z0, .int .i64 2]) W13 rfl (by kernel_rfl) (by kernel_rfl) ?_
          simp only [Act.put, List.setIfInBounds_toArray, List.set_cons_zero, List.set_cons_succ]
          refine Segs.WL.val (some 36) (.agg Z0) W13 rfl (by kernel_rfl) (by kernel_rfl) ?_
          simp only [Act.put, List.setIfInBounds_toArray, List.set_cons_zero, List.set_cons_succ]
          refine Segs.WL.val (some 37) (.int .i64 2) W13 rfl (by kernel_rfl) (by kernel_rfl) ?_
          simp only [Act.put, List.setIfInBounds_toArray, List.set_cons_zero, List.set_cons_succ]
          obtain ⟨N1, hN1⟩ : ∃ n, n = W13.heap.size := ⟨_, rfl⟩
          have K17 := Lib.hid (K14.out.alloc (.cells Z0 25))
          have ne18 : w.heap.size ≠ N1 := by have := K14.out.lt; omega
          have K19 := Lib.hid (by have := Blk.new W13 25 Z0; rw [← hN1] at this; exact this : Blk (W13.alloc (.cells Z0 25)) N1 25 Z0)
          have B20 := Lib.hid (B15.out.alloc (.cells Z0 25))
          have ge21 : w.heap.size ≤ N1 := by rw [hN1]; exact B15.out.2
          refine Segs.WL.val (some 9) (.pointer (some ⟨N1, 0, none⟩)) (W13.alloc (.cells Z0 25)) rfl (by kernel_rfl) (by rw [hN1]; exact Segs.run_allocOf rfl Z0 (al_nd0 HZ.out)) ?_
          simp only [Act.put, List.setIfInBounds_toArray, List.set_cons_zero, List.set_cons_succ]
          generalize W13.alloc (.cells Z0 25) = W16 at K17 K19 B20 ⊢
          clear hN1
          have K23 := Lib.hid (K17.out.rowOther (g' := N1) (cs := Z0) ne18)
          have K24 := Lib.hid (K19.out.row (cs := Z0))
          have B25 := Lib.hid (Bl.setRow B20.out (g := N1) ge21 Z0)
          refine Segs.WL.skip (W16.setRow N1 Z0) rfl (by kernel_rfl) (Segs.run_storeRow rfl N1 Z0 (by kernel_rfl) (by kernel_rfl) 25 Z0 K19.out (info19 NZ.out.size) (NZ.out.size.trans NZ.out.size.symm) NZ.out.one) ?_
          generalize W16.setRow N1 Z0 = W22 at K23 K24 B25 ⊢
          refine Segs.WL.val (some 10) (.int .i64 2) W22 rfl (by kernel_rfl) (by kernel_rfl) ?_
          simp only [Act.put, List.setIfInBounds_toArray, List.set_cons_zero, List.set_cons_succ]
          refine Segs.WL.nil ?_
          go_upto_region 9 with (fail)
          refine wp_region_lit (Segs.WL.out ?_)
          refine Segs.WL.val (some 38) (.int .i64 1) W22 rfl (by kernel_rfl) (by kernel_rfl) ?_
          simp only [Act.put, List.setIfInBounds_toArray, List.set_cons_zero, List.set_cons_succ]
          refine Segs.WL.val (some 39) (.bool false) W22 rfl (by kernel_rfl) (by kernel_rfl) ?_
          simp only [Act.put, List.setIfInBounds_toArray, List.set_cons_zero, List.set_cons_succ]
          refine Segs.WL.val (some 40) (.agg CS) W22 rfl (by kernel_rfl) (Segs.run_row 25 (.tmp 2) rfl w.heap.size (by kernel_rfl) 25 CS _ K23.out Tryd.underlying25 rfl (info19 (NCS.out.size))) ?_
          simp only [Act.put, List.setIfInBounds_toArray, List.set_cons_zero, List.set_cons_succ]
          refine Segs.WL.call (some 41) 12 #[.agg CS] _ rfl (by kernel_rfl) (by kernel_rfl) (VAL.out W22 (LA.out _ B25.out.1).err) (fun e W26 hR => ?_)
          obtain ⟨rfl, hb⟩ := hR
          refine ⟨_, rfl, ?_⟩
          simp only [Act.put, List.setIfInBounds_toArray, List.set_cons_zero, List.set_cons_succ]
          have K27 := Lib.hid (K23.out.below hb)
          have K28 := Lib.hid (K24.out.below hb)
          have B29 := Lib.hid (B25.out.call hb)
          clear hb
          refine Segs.WL.val (some 42) (.bool false) W26 rfl (by kernel_rfl) (by kernel_rfl) ?_
          simp only [Act.put, List.setIfInBounds_toArray, List.set_cons_zero, List.set_cons_succ]
          refine Segs.WL.val (some 43) (.bool false) W26 rfl (by kernel_rfl) (by kernel_rfl) ?_
          simp only [Act.put, List.setIfInBounds_toArray, List.set_cons_zero, List.set_cons_succ]
          refine Segs.WL.val (some 44) (.int .i64 1) W26 rfl (by kernel_rfl) (by kernel_rfl) ?_
          simp only [Act.put, List.setIfInBounds_toArray, List.set_cons_zero, List.set_cons_succ]
          refine Segs.WL.val (some 45) (.bool false) W26 rfl (by kernel_rfl) (by kernel_rfl) ?_
          simp only [Act.put, List.setIfInBounds_toArray, List.set_cons_zero, List.set_cons_succ]
          refine Segs.WL.val (some 46) (.bool false) W26 rfl (by kernel_rfl) (by kernel_rfl) ?_
          simp only [Act.put, List.setIfInBounds_toArray, List.set_cons_zero, List.set_cons_succ]
          refine Segs.WL.not (some 47) rfl (by kernel_rfl) ?_
          simp only [Act.put, List.setIfInBounds_toArray, List.set_cons_zero, List.set_cons_succ]
          refine Segs.WL.not (some 48) rfl (by kernel_rfl) ?_
          simp only [Act.put, List.setIfInBounds_toArray, List.set_cons_zero, List.set_cons_succ]
          refine Segs.WL.not (some 49) rfl (by kernel_rfl) ?_
          simp only [Act.put, List.setIfInBounds_toArray, List.set_cons_zero, List.set_cons_succ]
          refine Segs.WL.not (some 50) rfl (by kernel_rfl) ?_
          simp only [Act.put, List.setIfInBounds_toArray, List.set_cons_zero, List.set_cons_succ]
          refine Segs.WL.not (some 51) rfl (by kernel_rfl) ?_
          simp only [Act.put, List.setIfInBounds_toArray, List.set_cons_zero, List.set_cons_succ]
          refine Segs.WL.not (some 52) rfl (by kernel_rfl) ?_
          simp only [Act.put, List.setIfInBounds_toArray, List.set_cons_zero, List.set_cons_succ]
          refine Segs.WL.not (some 53) rfl (by kernel_rfl) ?_
          simp only [Act.put, List.setIfInBounds_toArray, List.set_cons_zero, List.set_cons_succ]
          refine Segs.WL.val (some 54) (.bool false) W26 rfl (by kernel_rfl) (by kernel_rfl) ?_
          simp only [Act.put, List.setIfInBounds_toArray, List.set_cons_zero, List.set_cons_succ]
          refine Segs.WL.val (some 55) (.bool false) W26 rfl (by kernel_rfl) (by kernel_rfl) ?_
          simp only [Act.put, List.setIfInBounds_toArray, List.set_cons_zero, List.set_cons_succ]
          refine Segs.WL.val (some 56) (.bool false) W26 rfl (by kernel_rfl) (by kernel_rfl) ?_
          simp only [Act.put, List.setIfInBounds_toArray, List.set_cons_zero, List.set_cons_succ]
          refine Segs.WL.val (some 57) (.int .i64 1) W26 rfl (by kernel_rfl) (by kernel_rfl) ?_
          simp only [Act.put, List.setIfInBounds_toArray, List.set_cons_zero, List.set_cons_succ]
          refine Segs.WL.val (some 58) (.bool true) W26 rfl (by kernel_rfl) (by kernel_rfl) ?_
          simp only [Act.put, List.setIfInBounds_toArray, List.set_cons_zero, List.set_cons_succ]
          refine Segs.WL.val (some 59) (.bool true) W26 rfl (by kernel_rfl) (by kernel_rfl) ?_
          simp only [Act.put, List.setIfInBounds_toArray, List.set_cons_zero, List.set_cons_succ]
          refine Segs.WL.val (some 60) (.string e0) W26 rfl (by kernel_rfl) (by kernel_rfl) ?_
          simp only [Act.put, List.setIfInBounds_toArray, List.set_cons_zero, List.set_cons_succ]
          refine Segs.WL.val (some 61) (.bool !true) W26 rfl (by kernel_rfl) (run_nes rfl e0 ⟨#[]⟩ (by kernel_rfl) (by kernel_rfl) true (by first | rfl | exact decide_eq_true rfl)) ?_
          simp only [Act.put, List.setIfInBounds_toArray, List.set_cons_zero, List.set_cons_succ]
          refine Segs.WL.val (some 62) (.bool false) W26 rfl (by kernel_rfl) (by kernel_rfl) ?_
          simp only [Act.put, List.setIfInBounds_toArray, List.set_cons_zero, List.set_cons_succ]
          refine Segs.WL.val (some 63) (.bool false) W26 rfl (by kernel_rfl) (by kernel_rfl) ?_
          simp only [Act.put, List.setIfInBounds_toArray, List.set_cons_zero, List.set_cons_succ]
          refine Segs.WL.nil ?_
          go_upto_region 11 with (fail)
          refine wp_region_lit (Segs.WL.out ?_)
          refine Segs.WL.val (some 65) (.string a1) W26 rfl (by kernel_rfl) (by kernel_rfl) ?_
          simp only [Act.put, List.setIfInBounds_toArray, List.set_cons_zero, List.set_cons_succ]
          refine Segs.WL.call (some 66) 11 #[.string a1] _ rfl (by kernel_rfl) (by kernel_rfl) (GET1.out W26 (LA.out _ B29.out.1).err) (fun e W30 hR => ?_)
          obtain ⟨rfl, hb⟩ := hR
          refine ⟨_, rfl, ?_⟩
          simp only [Act.put, List.setIfInBounds_toArray, List.set_cons_zero, List.set_cons_succ]
          have K31 := Lib.hid (K27.out.below hb)
          have K32 := Lib.hid (K28.out.below hb)
          have B33 := Lib.hid (B29.out.call hb)
          clear hb
          refine Segs.WL.val (some 64) (.tuple #[.agg Z0, .int .i64 2]) W30 rfl (by kernel_rfl) (by kernel_rfl) ?_
          simp only [Act.put, List.setIfInBounds_toArray, List.set_cons_zero, List.set_cons_succ]
          refine Segs.WL.val (some 67) (.agg Z0) W30 rfl (by kernel_rfl) (by kernel_rfl) ?_
          simp only [Act.put, List.setIfInBounds_toArray, List.set_cons_zero, List.set_cons_succ]
          refine Segs.WL.val (some 68) (.int .i64 2) W30 rfl (by kernel_rfl) (by kernel_rfl) ?_
          simp only [Act.put, List.setIfInBounds_toArray, List.set_cons_zero, List.set_cons_succ]
          obtain ⟨N2, hN2⟩ : ∃ n, n = W30.heap.size := ⟨_, rfl⟩
          have K35 := Lib.hid (K31.out.alloc (.cells Z0 25))
          have ne36 : w.heap.size ≠ N2 := by have := K31.out.lt; omega
          have K37 := Lib.hid (K32.out.alloc (.cells Z0 25))
          have ne38 : N1 ≠ N2 := by have := K32.out.lt; omega
          have K39 := Lib.hid (by have := Blk.new W30 25 Z0; rw [← hN2] at this; exact this : Blk (W30.alloc (.cells Z0 25)) N2 25 Z0)
          have B40 := Lib.hid (B33.out.alloc (.cells Z0 25))
          have ge41 : w.heap.size ≤ N2 := by rw [hN2]; exact B33.out.2
          refine Segs.WL.val (some 11) (.pointer (some ⟨N2, 0, none⟩)) (W30.alloc (.cells Z0 25)) rfl (by kernel_rfl) (by rw [hN2]; exact Segs.run_allocOf rfl Z0 (al_nd0 HZ.out)) ?_
          simp only [Act.put, List.setIfInBounds_toArray, List.set_cons_zero, List.set_cons_succ]
          generalize W30.alloc (.cells Z0 25) = W34 at K35 K37 K39 B40 ⊢
          clear hN2
          have K43 := Lib.hid (K35.out.rowOther (g' := N2) (cs := Z0) ne36)
          have K44 := Lib.hid (K37.out.rowOther (g' := N2) (cs := Z0) ne38)
          have K45 := Lib.hid (K39.out.row (cs := Z0))
          have B46 := Lib.hid (Bl.setRow B40.out (g := N2) ge41 Z0)
          refine Segs.WL.skip (W34.setRow N2 Z0) rfl (by kernel_rfl) (Segs.run_storeRow rfl N2 Z0 (by kernel_rfl) (by kernel_rfl) 25 Z0 K39.out (info19 NZ.out.size) (NZ.out.size.trans NZ.out.size.symm) NZ.out.one) ?_
          generalize W34.setRow N2 Z0 = W42 at K43 K44 K45 B46 ⊢
          refine Segs.WL.val (some 12) (.int .i64 2) W42 rfl (by kernel_rfl) (by kernel_rfl) ?_
          simp only [Act.put, List.setIfInBounds_toArray, List.set_cons_zero, List.set_cons_succ]
          refine Segs.WL.nil ?_
          go_upto_region 12 with (fail)
          refine wp_region_lit (Segs.WL.out ?_)
          refine Segs.WL.val (some 69) (.int .i64 2) W42 rfl (by kernel_rfl) (by kernel_rfl) ?_
          simp only [Act.put, List.setIfInBounds_toArray, List.set_cons_zero, List.set_cons_succ]
          refine Segs.WL.val (some 70) (.bool true) W42 rfl (by kernel_rfl) (by kernel_rfl) ?_
          simp only [Act.put, List.setIfInBounds_toArray, List.set_cons_zero, List.set_cons_succ]
          refine Segs.WL.nil ?_
          go_upto_region 13 with (fail)
          refine wp_region_lit (Segs.WL.out ?_)
          refine Segs.WL.val (some 71) (.bool true) W42 rfl (by kernel_rfl) (by kernel_rfl) ?_
          simp only [Act.put, List.setIfInBounds_toArray, List.set_cons_zero, List.set_cons_succ]
          refine Segs.WL.val (some 72) (.bool true) W42 rfl (by kernel_rfl) (by kernel_rfl) ?_
          simp only [Act.put, List.setIfInBounds_toArray, List.set_cons_zero, List.set_cons_succ]
          refine Segs.WL.val (some 73) (.agg Z0) W42 rfl (by kernel_rfl) (Segs.run_row 25 (.tmp 11) rfl N2 (by kernel_rfl) 25 Z0 _ K45.out Tryd.underlying25 rfl (info19 (NZ.out.size))) ?_
          simp only [Act.put, List.setIfInBounds_toArray, List.set_cons_zero, List.set_cons_succ]
          refine Segs.WL.val (some 74) (.agg Z0) W42 rfl (by kernel_rfl) (Segs.run_built0 25 _ rfl Z0 (by simp only [List.map_toArray, List.map_nil]; exact built0 HZ.out)) ?_
          simp only [Act.put, List.setIfInBounds_toArray, List.set_cons_zero, List.set_cons_succ]
          refine Segs.WL.val (some 75) (.bool true) W42 rfl (by kernel_rfl) (run_eql_of rfl Z0 Z0 HZ.out HZ.out (by kernel_rfl) (by kernel_rfl) rfl rfl true (decide_eq_true rfl)) ?_
          simp only [Act.put, List.setIfInBounds_toArray, List.set_cons_zero, List.set_cons_succ]
          refine Segs.WL.val (some 76) (.bool true) W42 rfl (by kernel_rfl) (by kernel_rfl) ?_
          simp only [Act.put, List.setIfInBounds_toArray, List.set_cons_zero, List.set_cons_succ]
          refine Segs.WL.val (some 4) (.bool true) W42 rfl (by kernel_rfl) (by kernel_rfl) ?_
          simp only [Act.put, List.setIfInBounds_toArray, List.set_cons_zero, List.set_cons_succ]
          refine Segs.WL.nil ?_
          go_wp2_with fail
          go_ret
          exact ⟨rfl, B46.out.1⟩
        · rw [hv] at put val
          have bk := back a0 hv h16
          have bs := (back_read a0 hv h16).2.1
          have gs := fun W h => wk_geta (bytesB a0) (by omega) W h
          rw [bk] at gs
          simp only [if_true] at put
          obtain ⟨S, hS⟩ : ∃ s, s = bytesB a0 := ⟨_, rfl⟩
          rw [← hS] at put gs
          have GS := Lib.hid (fun W h => (hCS ▸ gs W h : Calls Tryd.prog 11 #[.string S] W fun e w' => e = .returned (.tuple #[.agg CS, .int .i64 0]) ∧ Below W.heap.size W w'))
          have PUT := Lib.hid put
          have VAL := Lib.hid val
          clear hl few hCS hZ0 hfw w0 h16 hff hlen hsz val put get1 hg hv bk bs gs hS
          have B0 := Lib.hid (Bl.start w)
          have K1 := Lib.hid (by have := Blk.new (w) 25 CS; simpa using this : Blk ((w).alloc (.cells CS 25)) w.heap.size 25 CS)
          have B2 := Lib.hid (B0.out.alloc (.cells CS 25))
          go_enter Tryd.func3, Tryd.ntmps3
          go_upto_region 1 with (fail)
          generalize w.alloc (.cells CS 25) = W3 at K1 B2 ⊢
          refine wp_region_lit (Segs.WL.out ?_)
          refine Segs.WL.call (some 15) 8 #[] _ rfl (by kernel_rfl) (by kernel_rfl) (WK.out W3 (LA.out _ B2.out.1)) (fun e W4 hR => ?_)
          obtain ⟨rfl, hb⟩ := hR
          refine ⟨_, rfl, ?_⟩
          simp only [Act.put, List.setIfInBounds_toArray, List.set_cons_zero, List.set_cons_succ]
          have K5 := Lib.hid (K1.out.below hb)
          have B6 := Lib.hid (B2.out.call hb)
          clear hb
          refine Segs.WL.val (some 5) (.bool true) W4 rfl (by kernel_rfl) (by kernel_rfl) ?_
          simp only [Act.put, List.setIfInBounds_toArray, List.set_cons_zero, List.set_cons_succ]
          refine Segs.WL.nil ?_
          go_upto_region 2 with (fail)
          refine wp_region_lit (Segs.WL.out ?_)
          refine Segs.WL.val (some 16) (.bool true) W4 rfl (by kernel_rfl) (by kernel_rfl) ?_
          simp only [Act.put, List.setIfInBounds_toArray, List.set_cons_zero, List.set_cons_succ]
          refine Segs.WL.val (some 17) (.bool false) W4 rfl (by kernel_rfl) (by kernel_rfl) ?_
          simp only [Act.put, List.setIfInBounds_toArray, List.set_cons_zero, List.set_cons_succ]
          refine Segs.WL.nil ?_
          go_upto_region 4 with (fail)
          refine wp_region_lit (Segs.WL.out ?_)
          refine Segs.WL.val (some 18) (.agg CS) W4 rfl (by kernel_rfl) (Segs.run_row 25 (.tmp 2) rfl w.heap.size (by kernel_rfl) 25 CS _ K5.out Tryd.underlying25 rfl (info19 (NCS.out.size))) ?_
          simp only [Act.put, List.setIfInBounds_toArray, List.set_cons_zero, List.set_cons_succ]
          refine Segs.WL.call (some 19) 9 #[.agg CS] _ rfl (by kernel_rfl) (by kernel_rfl) (FEW.out W4) (fun e W7 hR => ?_)
          obtain ⟨rfl, hb⟩ := hR
          refine ⟨_, rfl, ?_⟩
          simp only [Act.put, List.setIfInBounds_toArray, List.set_cons_zero, List.set_cons_succ]
          have K8 := Lib.hid (K5.out.below hb)
          have B9 := Lib.hid (B6.out.call hb)
          clear hb
          refine Segs.WL.val (some 6) (.bool true) W7 rfl (by kernel_rfl) (by kernel_rfl) ?_
          simp only [Act.put, List.setIfInBounds_toArray, List.set_cons_zero, List.set_cons_succ]
          refine Segs.WL.nil ?_
          go_upto_region 5 with (fail)
          refine wp_region_lit (Segs.WL.out ?_)
          refine Segs.WL.val (some 20) (.bool true) W7 rfl (by kernel_rfl) (by kernel_rfl) ?_
          simp only [Act.put, List.setIfInBounds_toArray, List.set_cons_zero, List.set_cons_succ]
          refine Segs.WL.val (some 21) (.bool false) W7 rfl (by kernel_rfl) (by kernel_rfl) ?_
          simp only [Act.put, List.setIfInBounds_toArray, List.set_cons_zero, List.set_cons_succ]
          refine Segs.WL.val (some 22) (.bool false) W7 rfl (by kernel_rfl) (by kernel_rfl) ?_
          simp only [Act.put, List.setIfInBounds_toArray, List.set_cons_zero, List.set_cons_succ]
          refine Segs.WL.val (some 23) (.string a1) W7 rfl (by kernel_rfl) (by kernel_rfl) ?_
          simp only [Act.put, List.setIfInBounds_toArray, List.set_cons_zero, List.set_cons_succ]
          refine Segs.WL.val (some 24) (.int .i64 (a1.size)) W7 rfl (by kernel_rfl) (by kernel_rfl) ?_
          simp only [Act.put, List.setIfInBounds_toArray, List.set_cons_zero, List.set_cons_succ]
          refine Segs.WL.val (some 25) (.bool (decide ((1000 : Int) < (a1.size : Int)))) W7 rfl (by kernel_rfl) (by kernel_rfl) ?_
          simp only [Act.put, List.setIfInBounds_toArray, List.set_cons_zero, List.set_cons_succ]
          rw [HLEN.out]
          refine Segs.WL.val (some 26) (.bool false) W7 rfl (by kernel_rfl) (by kernel_rfl) ?_
          simp only [Act.put, List.setIfInBounds_toArray, List.set_cons_zero, List.set_cons_succ]
          refine Segs.WL.nil ?_
          go_upto_region 7 with (fail)
          refine wp_region_lit (Segs.WL.out ?_)
          refine Segs.WL.val (some 29) (.agg CS) W7 rfl (by kernel_rfl) (Segs.run_row 25 (.tmp 2) rfl w.heap.size (by kernel_rfl) 25 CS _ K8.out Tryd.underlying25 rfl (info19 (NCS.out.size))) ?_
          simp only [Act.put, List.setIfInBounds_toArray, List.set_cons_zero, List.set_cons_succ]
          refine Segs.WL.call (some 30) 10 #[.agg CS] _ rfl (by kernel_rfl) (by kernel_rfl) (PUT.out W7 (LA.out _ B9.out.1).err) (fun e W10 hR => ?_)
          obtain ⟨rfl, hb⟩ := hR
          refine ⟨_, rfl, ?_⟩
          simp only [Act.put, List.setIfInBounds_toArray, List.set_cons_zero, List.set_cons_succ]
          have K11 := Lib.hid (K8.out.below hb)
          have B12 := Lib.hid (B9.out.call hb)
          clear hb
          refine Segs.WL.val (some 28) (.tuple #[.string S, .int .i64 0]) W10 rfl (by kernel_rfl) (by kernel_rfl) ?_
          simp only [Act.put, List.setIfInBounds_toArray, List.set_cons_zero, List.set_cons_succ]
          refine Segs.WL.val (some 31) (.string S) W10 rfl (by kernel_rfl) (by kernel_rfl) ?_
          simp only [Act.put, List.setIfInBounds_toArray, List.set_cons_zero, List.set_cons_succ]
          refine Segs.WL.val (some 32) (.int .i64 0) W10 rfl (by kernel_rfl) (by kernel_rfl) ?_
          simp only [Act.put, List.setIfInBounds_toArray, List.set_cons_zero, List.set_cons_succ]
          refine Segs.WL.val (some 7) (.string S) W10 rfl (by kernel_rfl) (by kernel_rfl) ?_
          simp only [Act.put, List.setIfInBounds_toArray, List.set_cons_zero, List.set_cons_succ]
          refine Segs.WL.val (some 8) (.int .i64 0) W10 rfl (by kernel_rfl) (by kernel_rfl) ?_
          simp only [Act.put, List.setIfInBounds_toArray, List.set_cons_zero, List.set_cons_succ]
          refine Segs.WL.nil ?_
          go_upto_region 8 with (fail)
          refine wp_region_lit (Segs.WL.out ?_)
          refine Segs.WL.val (some 34) (.string S) W10 rfl (by kernel_rfl) (by kernel_rfl) ?_
          simp only [Act.put, List.setIfInBounds_toArray, List.set_cons_zero, List.set_cons_succ]
          refine Segs.WL.call (some 35) 11 #[.string S] _ rfl (by kernel_rfl) (by kernel_rfl) (GS.out W10 (LA.out _ B12.out.1).err) (fun e W13 hR => ?_)
          obtain ⟨rfl, hb⟩ := hR
          refine ⟨_, rfl, ?_⟩
          simp only [Act.put, List.setIfInBounds_toArray, List.set_cons_zero, List.set_cons_succ]
          have K14 := Lib.hid (K11.out.below hb)
          have B15 := Lib.hid (B12.out.call hb)
          clear hb
          refine Segs.WL.val (some 33) (.tuple #[.agg CS, .int .i64 0]) W13 rfl (by kernel_rfl) (by kernel_rfl) ?_
          simp only [Act.put, List.setIfInBounds_toArray, List.set_cons_zero, List.set_cons_succ]
          refine Segs.WL.val (some 36) (.agg CS) W13 rfl (by kernel_rfl) (by kernel_rfl) ?_
          simp only [Act.put, List.setIfInBounds_toArray, List.set_cons_zero, List.set_cons_succ]
          refine Segs.WL.val (some 37) (.int .i64 0) W13 rfl (by kernel_rfl) (by kernel_rfl) ?_
          simp only [Act.put, List.setIfInBounds_toArray, List.set_cons_zero, List.set_cons_succ]
          obtain ⟨N1, hN1⟩ : ∃ n, n = W13.heap.size := ⟨_, rfl⟩
          have K17 := Lib.hid (K14.out.alloc (.cells Z0 25))
          have ne18 : w.heap.size ≠ N1 := by have := K14.out.lt; omega
          have K19 := Lib.hid (by have := Blk.new W13 25 Z0; rw [← hN1] at this; exact this : Blk (W13.alloc (.cells Z0 25)) N1 25 Z0)
          have B20 := Lib.hid (B15.out.alloc (.cells Z0 25))
          have ge21 : w.heap.size ≤ N1 := by rw [hN1]; exact B15.out.2
          refine Segs.WL.val (some 9) (.pointer (some ⟨N1, 0, none⟩)) (W13.alloc (.cells Z0 25)) rfl (by kernel_rfl) (by rw [hN1]; exact Segs.run_allocOf rfl Z0 (al_nd0 HZ.out)) ?_
          simp only [Act.put, List.setIfInBounds_toArray, List.set_cons_zero, List.set_cons_succ]
          generalize W13.alloc (.cells Z0 25) = W16 at K17 K19 B20 ⊢
          clear hN1
          have K23 := Lib.hid (K17.out.rowOther (g' := N1) (cs := CS) ne18)
          have K24 := Lib.hid (K19.out.row (cs := CS))
          have B25 := Lib.hid (Bl.setRow B20.out (g := N1) ge21 CS)
          refine Segs.WL.skip (W16.setRow N1 CS) rfl (by kernel_rfl) (Segs.run_storeRow rfl N1 CS (by kernel_rfl) (by kernel_rfl) 25 Z0 K19.out (info19 NCS.out.size) (NZ.out.size.trans NCS.out.size.symm) NCS.out.one) ?_
          generalize W16.setRow N1 CS = W22 at K23 K24 B25 ⊢
          refine Segs.WL.val (some 10) (.int .i64 0) W22 rfl (by kernel_rfl) (by kernel_rfl) ?_
          simp only [Act.put, List.setIfInBounds_toArray, List.set_cons_zero, List.set_cons_succ]
          refine Segs.WL.nil ?_
          go_upto_region 9 with (fail)
          refine wp_region_lit (Segs.WL.out ?_)
          refine Segs.WL.val (some 38) (.int .i64 0) W22 rfl (by kernel_rfl) (by kernel_rfl) ?_
          simp only [Act.put, List.setIfInBounds_toArray, List.set_cons_zero, List.set_cons_succ]
          refine Segs.WL.val (some 39) (.bool true) W22 rfl (by kernel_rfl) (by kernel_rfl) ?_
          simp only [Act.put, List.setIfInBounds_toArray, List.set_cons_zero, List.set_cons_succ]
          refine Segs.WL.val (some 40) (.agg CS) W22 rfl (by kernel_rfl) (Segs.run_row 25 (.tmp 2) rfl w.heap.size (by kernel_rfl) 25 CS _ K23.out Tryd.underlying25 rfl (info19 (NCS.out.size))) ?_
          simp only [Act.put, List.setIfInBounds_toArray, List.set_cons_zero, List.set_cons_succ]
          refine Segs.WL.call (some 41) 12 #[.agg CS] _ rfl (by kernel_rfl) (by kernel_rfl) (VAL.out W22 (LA.out _ B25.out.1).err) (fun e W26 hR => ?_)
          obtain ⟨rfl, hb⟩ := hR
          refine ⟨_, rfl, ?_⟩
          simp only [Act.put, List.setIfInBounds_toArray, List.set_cons_zero, List.set_cons_succ]
          have K27 := Lib.hid (K23.out.below hb)
          have K28 := Lib.hid (K24.out.below hb)
          have B29 := Lib.hid (B25.out.call hb)
          clear hb
          refine Segs.WL.val (some 42) (.bool false) W26 rfl (by kernel_rfl) (by kernel_rfl) ?_
          simp only [Act.put, List.setIfInBounds_toArray, List.set_cons_zero, List.set_cons_succ]
          refine Segs.WL.val (some 43) (.bool false) W26 rfl (by kernel_rfl) (by kernel_rfl) ?_
          simp only [Act.put, List.setIfInBounds_toArray, List.set_cons_zero, List.set_cons_succ]
          refine Segs.WL.val (some 44) (.int .i64 0) W26 rfl (by kernel_rfl) (by kernel_rfl) ?_
          simp only [Act.put, List.setIfInBounds_toArray, List.set_cons_zero, List.set_cons_succ]
          refine Segs.WL.val (some 45) (.bool true) W26 rfl (by kernel_rfl) (by kernel_rfl) ?_
          simp only [Act.put, List.setIfInBounds_toArray, List.set_cons_zero, List.set_cons_succ]
          refine Segs.WL.val (some 46) (.bool true) W26 rfl (by kernel_rfl) (by kernel_rfl) ?_
          simp only [Act.put, List.setIfInBounds_toArray, List.set_cons_zero, List.set_cons_succ]
          refine Segs.WL.val (some 47) (.int .i64 0) W26 rfl (by kernel_rfl) (by kernel_rfl) ?_
          simp only [Act.put, List.setIfInBounds_toArray, List.set_cons_zero, List.set_cons_succ]
          refine Segs.WL.val (some 48) (.bool false) W26 rfl (by kernel_rfl) (by kernel_rfl) ?_
          simp only [Act.put, List.setIfInBounds_toArray, List.set_cons_zero, List.set_cons_succ]
          refine Segs.WL.val (some 49) (.bool false) W26 rfl (by kernel_rfl) (by kernel_rfl) ?_
          simp only [Act.put, List.setIfInBounds_toArray, List.set_cons_zero, List.set_cons_succ]
          refine Segs.WL.val (some 50) (.agg CS) W26 rfl (by kernel_rfl) (Segs.run_row 25 (.tmp 9) rfl N1 (by kernel_rfl) 25 CS _ K28.out Tryd.underlying25 rfl (info19 (NCS.out.size))) ?_
          simp only [Act.put, List.setIfInBounds_toArray, List.set_cons_zero, List.set_cons_succ]
          refine Segs.WL.val (some 51) (.agg CS) W26 rfl (by kernel_rfl) (Segs.run_row 25 (.tmp 2) rfl w.heap.size (by kernel_rfl) 25 CS _ K27.out Tryd.underlying25 rfl (info19 (NCS.out.size))) ?_
          simp only [Act.put, List.setIfInBounds_toArray, List.set_cons_zero, List.set_cons_succ]
          refine Segs.WL.val (some 52) (.bool !true) W26 rfl (by kernel_rfl) (run_neq_of rfl CS CS HCS.out HCS.out (by kernel_rfl) (by kernel_rfl) H16.out H16.out true (decide_eq_true rfl)) ?_
          simp only [Act.put, List.setIfInBounds_toArray, List.set_cons_zero, List.set_cons_succ]
          refine Segs.WL.val (some 53) (.bool false) W26 rfl (by kernel_rfl) (by kernel_rfl) ?_
          simp only [Act.put, List.setIfInBounds_toArray, List.set_cons_zero, List.set_cons_succ]
          refine Segs.WL.val (some 54) (.bool false) W26 rfl (by kernel_rfl) (by kernel_rfl) ?_
          simp only [Act.put, List.setIfInBounds_toArray, List.set_cons_zero, List.set_cons_succ]
          refine Segs.WL.val (some 55) (.bool false) W26 rfl (by kernel_rfl) (by kernel_rfl) ?_
          simp only [Act.put, List.setIfInBounds_toArray, List.set_cons_zero, List.set_cons_succ]
          refine Segs.WL.val (some 56) (.bool false) W26 rfl (by kernel_rfl) (by kernel_rfl) ?_
          simp only [Act.put, List.setIfInBounds_toArray, List.set_cons_zero, List.set_cons_succ]
          refine Segs.WL.val (some 57) (.int .i64 0) W26 rfl (by kernel_rfl) (by kernel_rfl) ?_
          simp only [Act.put, List.setIfInBounds_toArray, List.set_cons_zero, List.set_cons_succ]
          refine Segs.WL.val (some 58) (.bool false) W26 rfl (by kernel_rfl) (by kernel_rfl) ?_
          simp only [Act.put, List.setIfInBounds_toArray, List.set_cons_zero, List.set_cons_succ]
          refine Segs.WL.val (some 59) (.bool false) W26 rfl (by kernel_rfl) (by kernel_rfl) ?_
          simp only [Act.put, List.setIfInBounds_toArray, List.set_cons_zero, List.set_cons_succ]
          refine Segs.WL.not (some 60) rfl (by kernel_rfl) ?_
          simp only [Act.put, List.setIfInBounds_toArray, List.set_cons_zero, List.set_cons_succ]
          refine Segs.WL.not (some 61) rfl (by kernel_rfl) ?_
          simp only [Act.put, List.setIfInBounds_toArray, List.set_cons_zero, List.set_cons_succ]
          refine Segs.WL.val (some 62) (.bool false) W26 rfl (by kernel_rfl) (by kernel_rfl) ?_
          simp only [Act.put, List.setIfInBounds_toArray, List.set_cons_zero, List.set_cons_succ]
          refine Segs.WL.val (some 63) (.bool false) W26 rfl (by kernel_rfl) (by kernel_rfl) ?_
          simp only [Act.put, List.setIfInBounds_toArray, List.set_cons_zero, List.set_cons_succ]
          refine Segs.WL.nil ?_
          go_upto_region 11 with (fail)
          refine wp_region_lit (Segs.WL.out ?_)
          refine Segs.WL.val (some 65) (.string a1) W26 rfl (by kernel_rfl) (by kernel_rfl) ?_
          simp only [Act.put, List.setIfInBounds_toArray, List.set_cons_zero, List.set_cons_succ]
          refine Segs.WL.call (some 66) 11 #[.string a1] _ rfl (by kernel_rfl) (by kernel_rfl) (GET1.out W26 (LA.out _ B29.out.1).err) (fun e W30 hR => ?_)
          obtain ⟨rfl, hb⟩ := hR
          refine ⟨_, rfl, ?_⟩
          simp only [Act.put, List.setIfInBounds_toArray, List.set_cons_zero, List.set_cons_succ]
          have K31 := Lib.hid (K27.out.below hb)
          have K32 := Lib.hid (K28.out.below hb)
          have B33 := Lib.hid (B29.out.call hb)
          clear hb
          refine Segs.WL.val (some 64) (.tuple #[.agg Z0, .int .i64 2]) W30 rfl (by kernel_rfl) (by kernel_rfl) ?_
          simp only [Act.put, List.setIfInBounds_toArray, List.set_cons_zero, List.set_cons_succ]
          refine Segs.WL.val (some 67) (.agg Z0) W30 rfl (by kernel_rfl) (by kernel_rfl) ?_
          simp only [Act.put, List.setIfInBounds_toArray, List.set_cons_zero, List.set_cons_succ]
          refine Segs.WL.val (some 68) (.int .i64 2) W30 rfl (by kernel_rfl) (by kernel_rfl) ?_
          simp only [Act.put, List.setIfInBounds_toArray, List.set_cons_zero, List.set_cons_succ]
          obtain ⟨N2, hN2⟩ : ∃ n, n = W30.heap.size := ⟨_, rfl⟩
          have K35 := Lib.hid (K31.out.alloc (.cells Z0 25))
          have ne36 : w.heap.size ≠ N2 := by have := K31.out.lt; omega
          have K37 := Lib.hid (K32.out.alloc (.cells Z0 25))
          have ne38 : N1 ≠ N2 := by have := K32.out.lt; omega
          have K39 := Lib.hid (by have := Blk.new W30 25 Z0; rw [← hN2] at this; exact this : Blk (W30.alloc (.cells Z0 25)) N2 25 Z0)
          have B40 := Lib.hid (B33.out.alloc (.cells Z0 25))
          have ge41 : w.heap.size ≤ N2 := by rw [hN2]; exact B33.out.2
          refine Segs.WL.val (some 11) (.pointer (some ⟨N2, 0, none⟩)) (W30.alloc (.cells Z0 25)) rfl (by kernel_rfl) (by rw [hN2]; exact Segs.run_allocOf rfl Z0 (al_nd0 HZ.out)) ?_
          simp only [Act.put, List.setIfInBounds_toArray, List.set_cons_zero, List.set_cons_succ]
          generalize W30.alloc (.cells Z0 25) = W34 at K35 K37 K39 B40 ⊢
          clear hN2
          have K43 := Lib.hid (K35.out.rowOther (g' := N2) (cs := Z0) ne36)
          have K44 := Lib.hid (K37.out.rowOther (g' := N2) (cs := Z0) ne38)
          have K45 := Lib.hid (K39.out.row (cs := Z0))
          have B46 := Lib.hid (Bl.setRow B40.out (g := N2) ge41 Z0)
          refine Segs.WL.skip (W34.setRow N2 Z0) rfl (by kernel_rfl) (Segs.run_storeRow rfl N2 Z0 (by kernel_rfl) (by kernel_rfl) 25 Z0 K39.out (info19 NZ.out.size) (NZ.out.size.trans NZ.out.size.symm) NZ.out.one) ?_
          generalize W34.setRow N2 Z0 = W42 at K43 K44 K45 B46 ⊢
          refine Segs.WL.val (some 12) (.int .i64 2) W42 rfl (by kernel_rfl) (by kernel_rfl) ?_
          simp only [Act.put, List.setIfInBounds_toArray, List.set_cons_zero, List.set_cons_succ]
          refine Segs.WL.nil ?_
          go_upto_region 12 with (fail)
          refine wp_region_lit (Segs.WL.out ?_)
          refine Segs.WL.val (some 69) (.int .i64 2) W42 rfl (by kernel_rfl) (by kernel_rfl) ?_
          simp only [Act.put, List.setIfInBounds_toArray, List.set_cons_zero, List.set_cons_succ]
          refine Segs.WL.val (some 70) (.bool true) W42 rfl (by kernel_rfl) (by kernel_rfl) ?_
          simp only [Act.put, List.setIfInBounds_toArray, List.set_cons_zero, List.set_cons_succ]
          refine Segs.WL.nil ?_
          go_upto_region 13 with (fail)
          refine wp_region_lit (Segs.WL.out ?_)
          refine Segs.WL.val (some 71) (.bool true) W42 rfl (by kernel_rfl) (by kernel_rfl) ?_
          simp only [Act.put, List.setIfInBounds_toArray, List.set_cons_zero, List.set_cons_succ]
          refine Segs.WL.val (some 72) (.bool true) W42 rfl (by kernel_rfl) (by kernel_rfl) ?_
          simp only [Act.put, List.setIfInBounds_toArray, List.set_cons_zero, List.set_cons_succ]
          refine Segs.WL.val (some 73) (.agg Z0) W42 rfl (by kernel_rfl) (Segs.run_row 25 (.tmp 11) rfl N2 (by kernel_rfl) 25 Z0 _ K45.out Tryd.underlying25 rfl (info19 (NZ.out.size))) ?_
          simp only [Act.put, List.setIfInBounds_toArray, List.set_cons_zero, List.set_cons_succ]
          refine Segs.WL.val (some 74) (.agg Z0) W42 rfl (by kernel_rfl) (Segs.run_built0 25 _ rfl Z0 (by simp only [List.map_toArray, List.map_nil]; exact built0 HZ.out)) ?_
          simp only [Act.put, List.setIfInBounds_toArray, List.set_cons_zero, List.set_cons_succ]
          refine Segs.WL.val (some 75) (.bool true) W42 rfl (by kernel_rfl) (run_eql_of rfl Z0 Z0 HZ.out HZ.out (by kernel_rfl) (by kernel_rfl) rfl rfl true (decide_eq_true rfl)) ?_
          simp only [Act.put, List.setIfInBounds_toArray, List.set_cons_zero, List.set_cons_succ]
          refine Segs.WL.val (some 76) (.bool true) W42 rfl (by kernel_rfl) (by kernel_rfl) ?_
          simp only [Act.put, List.setIfInBounds_toArray, List.set_cons_zero, List.set_cons_succ]
          refine Segs.WL.val (some 4) (.bool true) W42 rfl (by kernel_rfl) (by kernel_rfl) ?_
          simp only [Act.put, List.setIfInBounds_toArray, List.set_cons_zero, List.set_cons_succ]
          refine Segs.WL.nil ?_
          go_wp2_with fail
          go_ret
          exact ⟨rfl, B46.out.1⟩
      · rw [hg] at get1
        obtain ⟨o1, o2, o3, o4, o5, o6⟩ := g_facts hg
        have osz : ∀ r ∈ rfs o, r.size ≤ 10000 := fun r hr => by have := o6 r hr; omega
        have puto := fun W h => wk_put ⟨o1, o2⟩ o3 W h
        have valo := fun W h => wk_valid o o3 W h
        rw [o1] at valo
        obtain ⟨CO, hCO⟩ : ∃ z, z = ndC o := ⟨_, rfl⟩
        have NCO := Lib.hid (show Ndc CO by rw [hCO]; exact .of _)
        rw [← hCO] at puto valo
        have PUTO := Lib.hid puto
        have VALO := Lib.hid valo
        have GET1 := Lib.hid (fun W h => (hCO ▸ get1 W h : Calls Tryd.prog 11 #[.string a1] W fun e w' => e = .returned (.tuple #[.agg CO, .int .i64 0]) ∧ Below W.heap.size W w'))
        rcases hv : validB a0 with _ | _
        · rw [hv] at put val
          simp only [Bool.false_eq_true, if_false] at put
          have PUT := Lib.hid put
          have VAL := Lib.hid val
          clear hl few hCS hZ0 hfw w0 h16 hff hlen hsz val put get1 hg hv o1 o2 o3 o4 o5 o6 osz puto valo hCO
          have B0 := Lib.hid (Bl.start w)
          have K1 := Lib.hid (by have := Blk.new (w) 25 CS; simpa using this : Blk ((w).alloc (.cells CS 25)) w.heap.size 25 CS)
          have B2 := Lib.hid (B0.out.alloc (.cells CS 25))
          go_enter Tryd.func3, Tryd.ntmps3
          go_upto_region 1 with (fail)
          generalize w.alloc (.cells CS 25) = W3 at K1 B2 ⊢
          refine wp_region_lit (Segs.WL.out ?_)
          refine Segs.WL.call (some 15) 8 #[] _ rfl (by kernel_rfl) (by kernel_rfl) (WK.out W3 (LA.out _ B2.out.1)) (fun e W4 hR => ?_)
          obtain ⟨rfl, hb⟩ := hR
          refine ⟨_, rfl, ?_⟩
          simp only [Act.put, List.setIfInBounds_toArray, List.set_cons_zero, List.set_cons_succ]
          have K5 := Lib.hid (K1.out.below hb)
          have B6 := Lib.hid (B2.out.call hb)
          clear hb
          refine Segs.WL.val (some 5) (.bool true) W4 rfl (by kernel_rfl) (by kernel_rfl) ?_
          simp only [Act.put, List.setIfInBounds_toArray, List.set_cons_zero, List.set_cons_succ]
          refine Segs.WL.nil ?_
          go_upto_region 2 with (fail)
          refine wp_region_lit (Segs.WL.out ?_)
          refine Segs.WL.val (some 16) (.bool true) W4 rfl (by kernel_rfl) (by kernel_rfl) ?_
          simp only [Act.put, List.setIfInBounds_toArray, List.set_cons_zero, List.set_cons_succ]
          refine Segs.WL.val (some 17) (.bool false) W4 rfl (by kernel_rfl) (by kernel_rfl) ?_
          simp only [Act.put, List.setIfInBounds_toArray, List.set_cons_zero, List.set_cons_succ]
          refine Segs.WL.nil ?_
          go_upto_region 4 with (fail)
          refine wp_region_lit (Segs.WL.out ?_)
          refine Segs.WL.val (some 18) (.agg CS) W4 rfl (by kernel_rfl) (Segs.run_row 25 (.tmp 2) rfl w.heap.size (by kernel_rfl) 25 CS _ K5.out Tryd.underlying25 rfl (info19 (NCS.out.size))) ?_
          simp only [Act.put, List.setIfInBounds_toArray, List.set_cons_zero, List.set_cons_succ]
          refine Segs.WL.call (some 19) 9 #[.agg CS] _ rfl (by kernel_rfl) (by kernel_rfl) (FEW.out W4) (fun e W7 hR => ?_)
          obtain ⟨rfl, hb⟩ := hR
          refine ⟨_, rfl, ?_⟩
          simp only [Act.put, List.setIfInBounds_toArray, List.set_cons_zero, List.set_cons_succ]
          have K8 := Lib.hid (K5.out.below hb)
          have B9 := Lib.hid (B6.out.call hb)
          clear hb
          refine Segs.WL.val (some 6) (.bool true) W7 rfl (by kernel_rfl) (by kernel_rfl) ?_
          simp only [Act.put, List.setIfInBounds_toArray, List.set_cons_zero, List.set_cons_succ]
          refine Segs.WL.nil ?_
          go_upto_region 5 with (fail)
          refine wp_region_lit (Segs.WL.out ?_)
          refine Segs.WL.val (some 20) (.bool true) W7 rfl (by kernel_rfl) (by kernel_rfl) ?_
          simp only [Act.put, List.setIfInBounds_toArray, List.set_cons_zero, List.set_cons_succ]
          refine Segs.WL.val (some 21) (.bool false) W7 rfl (by kernel_rfl) (by kernel_rfl) ?_
          simp only [Act.put, List.setIfInBounds_toArray, List.set_cons_zero, List.set_cons_succ]
          refine Segs.WL.val (some 22) (.bool false) W7 rfl (by kernel_rfl) (by kernel_rfl) ?_
          simp only [Act.put, List.setIfInBounds_toArray, List.set_cons_zero, List.set_cons_succ]
          refine Segs.WL.val (some 23) (.string a1) W7 rfl (by kernel_rfl) (by kernel_rfl) ?_
          simp only [Act.put, List.setIfInBounds_toArray, List.set_cons_zero, List.set_cons_succ]
          refine Segs.WL.val (some 24) (.int .i64 (a1.size)) W7 rfl (by kernel_rfl) (by kernel_rfl) ?_
          simp only [Act.put, List.setIfInBounds_toArray, List.set_cons_zero, List.set_cons_succ]
          refine Segs.WL.val (some 25) (.bool (decide ((1000 : Int) < (a1.size : Int)))) W7 rfl (by kernel_rfl) (by kernel_rfl) ?_
          simp only [Act.put, List.setIfInBounds_toArray, List.set_cons_zero, List.set_cons_succ]
          rw [HLEN.out]
          refine Segs.WL.val (some 26) (.bool false) W7 rfl (by kernel_rfl) (by kernel_rfl) ?_
          simp only [Act.put, List.setIfInBounds_toArray, List.set_cons_zero, List.set_cons_succ]
          refine Segs.WL.nil ?_
          go_upto_region 7 with (fail)
          refine wp_region_lit (Segs.WL.out ?_)
          refine Segs.WL.val (some 29) (.agg CS) W7 rfl (by kernel_rfl) (Segs.run_row 25 (.tmp 2) rfl w.heap.size (by kernel_rfl) 25 CS _ K8.out Tryd.underlying25 rfl (info19 (NCS.out.size))) ?_
          simp only [Act.put, List.setIfInBounds_toArray, List.set_cons_zero, List.set_cons_succ]
          refine Segs.WL.call (some 30) 10 #[.agg CS] _ rfl (by kernel_rfl) (by kernel_rfl) (PUT.out W7 (LA.out _ B9.out.1).err) (fun e W10 hR => ?_)
          obtain ⟨rfl, hb⟩ := hR
          refine ⟨_, rfl, ?_⟩
          simp only [Act.put, List.setIfInBounds_toArray, List.set_cons_zero, List.set_cons_succ]
          have K11 := Lib.hid (K8.out.below hb)
          have B12 := Lib.hid (B9.out.call hb)
          clear hb
          refine Segs.WL.val (some 28) (.tuple #[.string e0, .int .i64 1]) W10 rfl (by kernel_rfl) (by kernel_rfl) ?_
          simp only [Act.put, List.setIfInBounds_toArray, List.set_cons_zero, List.set_cons_succ]
          refine Segs.WL.val (some 31) (.string e0) W10 rfl (by kernel_rfl) (by kernel_rfl) ?_
          simp only [Act.put, List.setIfInBounds_toArray, List.set_cons_zero, List.set_cons_succ]
          refine Segs.WL.val (some 32) (.int .i64 1) W10 rfl (by kernel_rfl) (by kernel_rfl) ?_
          simp only [Act.put, List.setIfInBounds_toArray, List.set_cons_zero, List.set_cons_succ]
          refine Segs.WL.val (some 7) (.string e0) W10 rfl (by kernel_rfl) (by kernel_rfl) ?_
          simp only [Act.put, List.setIfInBounds_toArray, List.set_cons_zero, List.set_cons_succ]
          refine Segs.WL.val (some 8) (.int .i64 1) W10 rfl (by kernel_rfl) (by kernel_rfl) ?_
          simp only [Act.put, List.setIfInBounds_toArray, List.set_cons_zero, List.set_cons_succ]
          refine Segs.WL.nil ?_
          go_upto_region 8 with (fail)
          refine wp_region_lit (Segs.WL.out ?_)
          refine Segs.WL.val (some 34) (.string e0) W10 rfl (by kernel_rfl) (by kernel_rfl) ?_
          simp only [Act.put, List.setIfInBounds_toArray, List.set_cons_zero, List.set_cons_succ]
          refine Segs.WL.call (some 35) 11 #[.string e0] _ rfl (by kernel_rfl) (by kernel_rfl) (GET0.out W10 (LA.out _ B12.out.1).err) (fun e W13 hR => ?_)
          obtain ⟨rfl, hb⟩ := hR
          refine ⟨_, rfl, ?_⟩
          simp only [Act.put, List.setIfInBounds_toArray, List.set_cons_zero, List.set_cons_succ]
          have K14 := Lib.hid (K11.out.below hb)
          have B15 := Lib.hid (B12.out.call hb)
          clear hb
          refine Segs.WL.val (some 33) (.tuple #[.agg Z0, .int .i64 2]) W13 rfl (by kernel_rfl) (by kernel_rfl) ?_
          simp only [Act.put, List.setIfInBounds_toArray, List.set_cons_zero, List.set_cons_succ]
          refine Segs.WL.val (some 36) (.agg Z0) W13 rfl (by kernel_rfl) (by kernel_rfl) ?_
          simp only [Act.put, List.setIfInBounds_toArray, List.set_cons_zero, List.set_cons_succ]
          refine Segs.WL.val (some 37) (.int .i64 2) W13 rfl (by kernel_rfl) (by kernel_rfl) ?_
          simp only [Act.put, List.setIfInBounds_toArray, List.set_cons_zero, List.set_cons_succ]
          obtain ⟨N1, hN1⟩ : ∃ n, n = W13.heap.size := ⟨_, rfl⟩
          have K17 := Lib.hid (K14.out.alloc (.cells Z0 25))
          have ne18 : w.heap.size ≠ N1 := by have := K14.out.lt; omega
          have K19 := Lib.hid (by have := Blk.new W13 25 Z0; rw [← hN1] at this; exact this : Blk (W13.alloc (.cells Z0 25)) N1 25 Z0)
          have B20 := Lib.hid (B15.out.alloc (.cells Z0 25))
          have ge21 : w.heap.size ≤ N1 := by rw [hN1]; exact B15.out.2
          refine Segs.WL.val (some 9) (.pointer (some ⟨N1, 0, none⟩)) (W13.alloc (.cells Z0 25)) rfl (by kernel_rfl) (by rw [hN1]; exact Segs.run_allocOf rfl Z0 (al_nd0 HZ.out)) ?_
          simp only [Act.put, List.setIfInBounds_toArray, List.set_cons_zero, List.set_cons_succ]
          generalize W13.alloc (.cells Z0 25) = W16 at K17 K19 B20 ⊢
          clear hN1
          have K23 := Lib.hid (K17.out.rowOther (g' := N1) (cs := Z0) ne18)
          have K24 := Lib.hid (K19.out.row (cs := Z0))
          have B25 := Lib.hid (Bl.setRow B20.out (g := N1) ge21 Z0)
          refine Segs.WL.skip (W16.setRow N1 Z0) rfl (by kernel_rfl) (Segs.run_storeRow rfl N1 Z0 (by kernel_rfl) (by kernel_rfl) 25 Z0 K19.out (info19 NZ.out.size) (NZ.out.size.trans NZ.out.size.symm) NZ.out.one) ?_
          generalize W16.setRow N1 Z0 = W22 at K23 K24 B25 ⊢
          refine Segs.WL.val (some 10) (.int .i64 2) W22 rfl (by kernel_rfl) (by kernel_rfl) ?_
          simp only [Act.put, List.setIfInBounds_toArray, List.set_cons_zero, List.set_cons_succ]
          refine Segs.WL.nil ?_
          go_upto_region 9 with (fail)
          refine wp_region_lit (Segs.WL.out ?_)
          refine Segs.WL.val (some 38) (.int .i64 1) W22 rfl (by kernel_rfl) (by kernel_rfl) ?_
          simp only [Act.put, List.setIfInBounds_toArray, List.set_cons_zero, List.set_cons_succ]
          refine Segs.WL.val (some 39) (.bool false) W22 rfl (by kernel_rfl) (by kernel_rfl) ?_
          simp only [Act.put, List.setIfInBounds_toArray, List.set_cons_zero, List.set_cons_succ]
          refine Segs.WL.val (some 40) (.agg CS) W22 rfl (by kernel_rfl) (Segs.run_row 25 (.tmp 2) rfl w.heap.size (by kernel_rfl) 25 CS _ K23.out Tryd.underlying25 rfl (info19 (NCS.out.size))) ?_
          simp only [Act.put, List.setIfInBounds_toArray, List.set_cons_zero, List.set_cons_succ]
          refine Segs.WL.call (some 41) 12 #[.agg CS] _ rfl (by kernel_rfl) (by kernel_rfl) (VAL.out W22 (LA.out _ B25.out.1).err) (fun e W26 hR => ?_)
          obtain ⟨rfl, hb⟩ := hR
          refine ⟨_, rfl, ?_⟩
          simp only [Act.put, List.setIfInBounds_toArray, List.set_cons_zero, List.set_cons_succ]
          have K27 := Lib.hid (K23.out.below hb)
          have K28 := Lib.hid (K24.out.below hb)
          have B29 := Lib.hid (B25.out.call hb)
          clear hb
          refine Segs.WL.val (some 42) (.bool false) W26 rfl (by kernel_rfl) (by kernel_rfl) ?_
          simp only [Act.put, List.setIfInBounds_toArray, List.set_cons_zero, List.set_cons_succ]
          refine Segs.WL.val (some 43) (.bool false) W26 rfl (by kernel_rfl) (by kernel_rfl) ?_
          simp only [Act.put, List.setIfInBounds_toArray, List.set_cons_zero, List.set_cons_succ]
          refine Segs.WL.val (some 44) (.int .i64 1) W26 rfl (by kernel_rfl) (by kernel_rfl) ?_
          simp only [Act.put, List.setIfInBounds_toArray, List.set_cons_zero, List.set_cons_succ]
          refine Segs.WL.val (some 45) (.bool false) W26 rfl (by kernel_rfl) (by kernel_rfl) ?_
          simp only [Act.put, List.setIfInBounds_toArray, List.set_cons_zero, List.set_cons_succ]
          refine Segs.WL.val (some 46) (.bool false) W26 rfl (by kernel_rfl) (by kernel_rfl) ?_
          simp only [Act.put, List.setIfInBounds_toArray, List.set_cons_zero, List.set_cons_succ]
          refine Segs.WL.not (some 47) rfl (by kernel_rfl) ?_
          simp only [Act.put, List.setIfInBounds_toArray, List.set_cons_zero, List.set_cons_succ]
          refine Segs.WL.not (some 48) rfl (by kernel_rfl) ?_
          simp only [Act.put, List.setIfInBounds_toArray, List.set_cons_zero, List.set_cons_succ]
          refine Segs.WL.not (some 49) rfl (by kernel_rfl) ?_
          simp only [Act.put, List.setIfInBounds_toArray, List.set_cons_zero, List.set_cons_succ]
          refine Segs.WL.not (some 50) rfl (by kernel_rfl) ?_
          simp only [Act.put, List.setIfInBounds_toArray, List.set_cons_zero, List.set_cons_succ]
          refine Segs.WL.not (some 51) rfl (by kernel_rfl) ?_
          simp only [Act.put, List.setIfInBounds_toArray, List.set_cons_zero, List.set_cons_succ]
          refine Segs.WL.not (some 52) rfl (by kernel_rfl) ?_
          simp only [Act.put, List.setIfInBounds_toArray, List.set_cons_zero, List.set_cons_succ]
          refine Segs.WL.not (some 53) rfl (by kernel_rfl) ?_
          simp only [Act.put, List.setIfInBounds_toArray, List.set_cons_zero, List.set_cons_succ]
          refine Segs.WL.val (some 54) (.bool false) W26 rfl (by kernel_rfl) (by kernel_rfl) ?_
          simp only [Act.put, List.setIfInBounds_toArray, List.set_cons_zero, List.set_cons_succ]
          refine Segs.WL.val (some 55) (.bool false) W26 rfl (by kernel_rfl) (by kernel_rfl) ?_
          simp only [Act.put, List.setIfInBounds_toArray, List.set_cons_zero, List.set_cons_succ]
          refine Segs.WL.val (some 56) (.bool false) W26 rfl (by kernel_rfl) (by kernel_rfl) ?_
          simp only [Act.put, List.setIfInBounds_toArray, List.set_cons_zero, List.set_cons_succ]
          refine Segs.WL.val (some 57) (.int .i64 1) W26 rfl (by kernel_rfl) (by kernel_rfl) ?_
          simp only [Act.put, List.setIfInBounds_toArray, List.set_cons_zero, List.set_cons_succ]
          refine Segs.WL.val (some 58) (.bool true) W26 rfl (by kernel_rfl) (by kernel_rfl) ?_
          simp only [Act.put, List.setIfInBounds_toArray, List.set_cons_zero, List.set_cons_succ]
          refine Segs.WL.val (some 59) (.bool true) W26 rfl (by kernel_rfl) (by kernel_rfl) ?_
          simp only [Act.put, List.setIfInBounds_toArray, List.set_cons_zero, List.set_cons_succ]
          refine Segs.WL.val (some 60) (.string e0) W26 rfl (by kernel_rfl) (by kernel_rfl) ?_
          simp only [Act.put, List.setIfInBounds_toArray, List.set_cons_zero, List.set_cons_succ]
          refine Segs.WL.val (some 61) (.bool !true) W26 rfl (by kernel_rfl) (run_nes rfl e0 ⟨#[]⟩ (by kernel_rfl) (by kernel_rfl) true (by first | rfl | exact decide_eq_true rfl)) ?_
          simp only [Act.put, List.setIfInBounds_toArray, List.set_cons_zero, List.set_cons_succ]
          refine Segs.WL.val (some 62) (.bool false) W26 rfl (by kernel_rfl) (by kernel_rfl) ?_
          simp only [Act.put, List.setIfInBounds_toArray, List.set_cons_zero, List.set_cons_succ]
          refine Segs.WL.val (some 63) (.bool false) W26 rfl (by kernel_rfl) (by kernel_rfl) ?_
          simp only [Act.put, List.setIfInBounds_toArray, List.set_cons_zero, List.set_cons_succ]
          refine Segs.WL.nil ?_
          go_upto_region 11 with (fail)
          refine wp_region_lit (Segs.WL.out ?_)
          refine Segs.WL.val (some 65) (.string a1) W26 rfl (by kernel_rfl) (by kernel_rfl) ?_
          simp only [Act.put, List.setIfInBounds_toArray, List.set_cons_zero, List.set_cons_succ]
          refine Segs.WL.call (some 66) 11 #[.string a1] _ rfl (by kernel_rfl) (by kernel_rfl) (GET1.out W26 (LA.out _ B29.out.1).err) (fun e W30 hR => ?_)
          obtain ⟨rfl, hb⟩ := hR
          refine ⟨_, rfl, ?_⟩
          simp only [Act.put, List.setIfInBounds_toArray, List.set_cons_zero, List.set_cons_succ]
          have K31 := Lib.hid (K27.out.below hb)
          have K32 := Lib.hid (K28.out.below hb)
          have B33 := Lib.hid (B29.out.call hb)
          clear hb
          refine Segs.WL.val (some 64) (.tuple #[.agg CO, .int .i64 0]) W30 rfl (by kernel_rfl) (by kernel_rfl) ?_
          simp only [Act.put, List.setIfInBounds_toArray, List.set_cons_zero, List.set_cons_succ]
          refine Segs.WL.val (some 67) (.agg CO) W30 rfl (by kernel_rfl) (by kernel_rfl) ?_
          simp only [Act.put, List.setIfInBounds_toArray, List.set_cons_zero, List.set_cons_succ]
          refine Segs.WL.val (some 68) (.int .i64 0) W30 rfl (by kernel_rfl) (by kernel_rfl) ?_
          simp only [Act.put, List.setIfInBounds_toArray, List.set_cons_zero, List.set_cons_succ]
          obtain ⟨N2, hN2⟩ : ∃ n, n = W30.heap.size := ⟨_, rfl⟩
          have K35 := Lib.hid (K31.out.alloc (.cells Z0 25))
          have ne36 : w.heap.size ≠ N2 := by have := K31.out.lt; omega
          have K37 := Lib.hid (K32.out.alloc (.cells Z0 25))
          have ne38 : N1 ≠ N2 := by have := K32.out.lt; omega
          have K39 := Lib.hid (by have := Blk.new W30 25 Z0; rw [← hN2] at this; exact this : Blk (W30.alloc (.cells Z0 25)) N2 25 Z0)
          have B40 := Lib.hid (B33.out.alloc (.cells Z0 25))
          have ge41 : w.heap.size ≤ N2 := by rw [hN2]; exact B33.out.2
          refine Segs.WL.val (some 11) (.pointer (some ⟨N2, 0, none⟩)) (W30.alloc (.cells Z0 25)) rfl (by kernel_rfl) (by rw [hN2]; exact Segs.run_allocOf rfl Z0 (al_nd0 HZ.out)) ?_
          simp only [Act.put, List.setIfInBounds_toArray, List.set_cons_zero, List.set_cons_succ]
          generalize W30.alloc (.cells Z0 25) = W34 at K35 K37 K39 B40 ⊢
          clear hN2
          have K43 := Lib.hid (K35.out.rowOther (g' := N2) (cs := CO) ne36)
          have K44 := Lib.hid (K37.out.rowOther (g' := N2) (cs := CO) ne38)
          have K45 := Lib.hid (K39.out.row (cs := CO))
          have B46 := Lib.hid (Bl.setRow B40.out (g := N2) ge41 CO)
          refine Segs.WL.skip (W34.setRow N2 CO) rfl (by kernel_rfl) (Segs.run_storeRow rfl N2 CO (by kernel_rfl) (by kernel_rfl) 25 Z0 K39.out (info19 NCO.out.size) (NZ.out.size.trans NCO.out.size.symm) NCO.out.one) ?_
          generalize W34.setRow N2 CO = W42 at K43 K44 K45 B46 ⊢
          refine Segs.WL.val (some 12) (.int .i64 0) W42 rfl (by kernel_rfl) (by kernel_rfl) ?_
          simp only [Act.put, List.setIfInBounds_toArray, List.set_cons_zero, List.set_cons_succ]
          refine Segs.WL.nil ?_
          go_upto_region 12 with (fail)
          refine wp_region_lit (Segs.WL.out ?_)
          refine Segs.WL.val (some 69) (.int .i64 0) W42 rfl (by kernel_rfl) (by kernel_rfl) ?_
          simp only [Act.put, List.setIfInBounds_toArray, List.set_cons_zero, List.set_cons_succ]
          refine Segs.WL.val (some 70) (.bool false) W42 rfl (by kernel_rfl) (by kernel_rfl) ?_
          simp only [Act.put, List.setIfInBounds_toArray, List.set_cons_zero, List.set_cons_succ]
          refine Segs.WL.nil ?_
          go_upto_region 14 with (fail)
          refine wp_region_lit (Segs.WL.out ?_)
          refine Segs.WL.val (some 78) (.agg CO) W42 rfl (by kernel_rfl) (Segs.run_row 25 (.tmp 11) rfl N2 (by kernel_rfl) 25 CO _ K45.out Tryd.underlying25 rfl (info19 (NCO.out.size))) ?_
          simp only [Act.put, List.setIfInBounds_toArray, List.set_cons_zero, List.set_cons_succ]
          refine Segs.WL.call (some 79) 10 #[.agg CO] _ rfl (by kernel_rfl) (by kernel_rfl) (PUTO.out W42 (LA.out _ B46.out.1).err) (fun e W47 hR => ?_)
          obtain ⟨rfl, hb⟩ := hR
          refine ⟨_, rfl, ?_⟩
          simp only [Act.put, List.setIfInBounds_toArray, List.set_cons_zero, List.set_cons_succ]
          have K48 := Lib.hid (K43.out.below hb)
          have K49 := Lib.hid (K44.out.below hb)
          have K50 := Lib.hid (K45.out.below hb)
          have B51 := Lib.hid (B46.out.call hb)
          clear hb
          refine Segs.WL.val (some 77) (.tuple #[.string a1, .int .i64 0]) W47 rfl (by kernel_rfl) (by kernel_rfl) ?_
          simp only [Act.put, List.setIfInBounds_toArray, List.set_cons_zero, List.set_cons_succ]
          refine Segs.WL.val (some 80) (.string a1) W47 rfl (by kernel_rfl) (by kernel_rfl) ?_
          simp only [Act.put, List.setIfInBounds_toArray, List.set_cons_zero, List.set_cons_succ]
          refine Segs.WL.val (some 81) (.int .i64 0) W47 rfl (by kernel_rfl) (by kernel_rfl) ?_
          simp only [Act.put, List.setIfInBounds_toArray, List.set_cons_zero, List.set_cons_succ]
          refine Segs.WL.val (some 13) (.string a1) W47 rfl (by kernel_rfl) (by kernel_rfl) ?_
          simp only [Act.put, List.setIfInBounds_toArray, List.set_cons_zero, List.set_cons_succ]
          refine Segs.WL.val (some 14) (.int .i64 0) W47 rfl (by kernel_rfl) (by kernel_rfl) ?_
          simp only [Act.put, List.setIfInBounds_toArray, List.set_cons_zero, List.set_cons_succ]
          refine Segs.WL.nil ?_
          go_upto_region 15 with (fail)
          refine wp_region_lit (Segs.WL.out ?_)
          refine Segs.WL.val (some 82) (.bool true) W47 rfl (by kernel_rfl) (by kernel_rfl) ?_
          simp only [Act.put, List.setIfInBounds_toArray, List.set_cons_zero, List.set_cons_succ]
          refine Segs.WL.val (some 83) (.bool true) W47 rfl (by kernel_rfl) (by kernel_rfl) ?_
          simp only [Act.put, List.setIfInBounds_toArray, List.set_cons_zero, List.set_cons_succ]
          refine Segs.WL.val (some 84) (.int .i64 0) W47 rfl (by kernel_rfl) (by kernel_rfl) ?_
          simp only [Act.put, List.setIfInBounds_toArray, List.set_cons_zero, List.set_cons_succ]
          refine Segs.WL.val (some 85) (.bool true) W47 rfl (by kernel_rfl) (by kernel_rfl) ?_
          simp only [Act.put, List.setIfInBounds_toArray, List.set_cons_zero, List.set_cons_succ]
          refine Segs.WL.val (some 86) (.bool true) W47 rfl (by kernel_rfl) (by kernel_rfl) ?_
          simp only [Act.put, List.setIfInBounds_toArray, List.set_cons_zero, List.set_cons_succ]
          refine Segs.WL.val (some 87) (.bool true) W47 rfl (by kernel_rfl) (by kernel_rfl) ?_
          simp only [Act.put, List.setIfInBounds_toArray, List.set_cons_zero, List.set_cons_succ]
          refine Segs.WL.val (some 88) (.string a1) W47 rfl (by kernel_rfl) (by kernel_rfl) ?_
          simp only [Act.put, List.setIfInBounds_toArray, List.set_cons_zero, List.set_cons_succ]
          refine Segs.WL.val (some 89) (.string a1) W47 rfl (by kernel_rfl) (by kernel_rfl) ?_
          simp only [Act.put, List.setIfInBounds_toArray, List.set_cons_zero, List.set_cons_succ]
          refine Segs.WL.val (some 90) (.bool true) W47 rfl (by kernel_rfl) (run_eqs rfl a1 a1 (by kernel_rfl) (by kernel_rfl) true (by first | rfl | exact decide_eq_true rfl)) ?_
          simp only [Act.put, List.setIfInBounds_toArray, List.set_cons_zero, List.set_cons_succ]
          refine Segs.WL.val (some 91) (.bool true) W47 rfl (by kernel_rfl) (by kernel_rfl) ?_
          simp only [Act.put, List.setIfInBounds_toArray, List.set_cons_zero, List.set_cons_succ]
          refine Segs.WL.val (some 92) (.bool true) W47 rfl (by kernel_rfl) (by kernel_rfl) ?_
          simp only [Act.put, List.setIfInBounds_toArray, List.set_cons_zero, List.set_cons_succ]
          refine Segs.WL.val (some 93) (.agg CO) W47 rfl (by kernel_rfl) (Segs.run_row 25 (.tmp 11) rfl N2 (by kernel_rfl) 25 CO _ K50.out Tryd.underlying25 rfl (info19 (NCO.out.size))) ?_
          simp only [Act.put, List.setIfInBounds_toArray, List.set_cons_zero, List.set_cons_succ]
          refine Segs.WL.call (some 94) 12 #[.agg CO] _ rfl (by kernel_rfl) (by kernel_rfl) (VALO.out W47 (LA.out _ B51.out.1).err) (fun e W52 hR => ?_)
          obtain ⟨rfl, hb⟩ := hR
          refine ⟨_, rfl, ?_⟩
          simp only [Act.put, List.setIfInBounds_toArray, List.set_cons_zero, List.set_cons_succ]
          have K53 := Lib.hid (K48.out.below hb)
          have K54 := Lib.hid (K49.out.below hb)
          have K55 := Lib.hid (K50.out.below hb)
          have B56 := Lib.hid (B51.out.call hb)
          clear hb
          refine Segs.WL.val (some 95) (.bool true) W52 rfl (by kernel_rfl) (by kernel_rfl) ?_
          simp only [Act.put, List.setIfInBounds_toArray, List.set_cons_zero, List.set_cons_succ]
          refine Segs.WL.val (some 4) (.bool true) W52 rfl (by kernel_rfl) (by kernel_rfl) ?_
          simp only [Act.put, List.setIfInBounds_toArray, List.set_cons_zero, List.set_cons_succ]
          refine Segs.WL.nil ?_
          go_wp2_with fail
          go_ret
          exact ⟨rfl, B56.out.1⟩
        · rw [hv] at put val
          have bk := back a0 hv h16
          have bs := (back_read a0 hv h16).2.1
          have gs := fun W h => wk_geta (bytesB a0) (by omega) W h
          rw [bk] at gs
          simp only [if_true] at put
          obtain ⟨S, hS⟩ : ∃ s, s = bytesB a0 := ⟨_, rfl⟩
          rw [← hS] at put gs
          have GS := Lib.hid (fun W h => (hCS ▸ gs W h : Calls Tryd.prog 11 #[.string S] W fun e w' => e = .returned (.tuple #[.agg CS, .int .i64 0]) ∧ Below W.heap.size W w'))
          have PUT := Lib.hid put
          have VAL := Lib.hid val
          clear hl few hCS hZ0 hfw w0 h16 hff hlen hsz val put get1 hg hv o1 o2 o3 o4 o5 o6 osz puto valo hCO bk bs gs hS
          have B0 := Lib.hid (Bl.start w)
          have K1 := Lib.hid (by have := Blk.new (w) 25 CS; simpa using this : Blk ((w).alloc (.cells CS 25)) w.heap.size 25 CS)
          have B2 := Lib.hid (B0.out.alloc (.cells CS 25))
          go_enter Tryd.func3, Tryd.ntmps3
          go_upto_region 1 with (fail)
          generalize w.alloc (.cells CS 25) = W3 at K1 B2 ⊢
          refine wp_region_lit (Segs.WL.out ?_)
          refine Segs.WL.call (some 15) 8 #[] _ rfl (by kernel_rfl) (by kernel_rfl) (WK.out W3 (LA.out _ B2.out.1)) (fun e W4 hR => ?_)
          obtain ⟨rfl, hb⟩ := hR
          refine ⟨_, rfl, ?_⟩
          simp only [Act.put, List.setIfInBounds_toArray, List.set_cons_zero, List.set_cons_succ]
          have K5 := Lib.hid (K1.out.below hb)
          have B6 := Lib.hid (B2.out.call hb)
          clear hb
          refine Segs.WL.val (some 5) (.bool true) W4 rfl (by kernel_rfl) (by kernel_rfl) ?_
          simp only [Act.put, List.setIfInBounds_toArray, List.set_cons_zero, List.set_cons_succ]
          refine Segs.WL.nil ?_
          go_upto_region 2 with (fail)
          refine wp_region_lit (Segs.WL.out ?_)
          refine Segs.WL.val (some 16) (.bool true) W4 rfl (by kernel_rfl) (by kernel_rfl) ?_
          simp only [Act.put, List.setIfInBounds_toArray, List.set_cons_zero, List.set_cons_succ]
          refine Segs.WL.val (some 17) (.bool false) W4 rfl (by kernel_rfl) (by kernel_rfl) ?_
          simp only [Act.put, List.setIfInBounds_toArray, List.set_cons_zero, List.set_cons_succ]
          refine Segs.WL.nil ?_
          go_upto_region 4 with (fail)
          refine wp_region_lit (Segs.WL.out ?_)
          refine Segs.WL.val (some 18) (.agg CS) W4 rfl (by kernel_rfl) (Segs.run_row 25 (.tmp 2) rfl w.heap.size (by kernel_rfl) 25 CS _ K5.out Tryd.underlying25 rfl (info19 (NCS.out.size))) ?_
          simp only [Act.put, List.setIfInBounds_toArray, List.set_cons_zero, List.set_cons_succ]
          refine Segs.WL.call (some 19) 9 #[.agg CS] _ rfl (by kernel_rfl) (by kernel_rfl) (FEW.out W4) (fun e W7 hR => ?_)
          obtain ⟨rfl, hb⟩ := hR
          refine ⟨_, rfl, ?_⟩
          simp only [Act.put, List.setIfInBounds_toArray, List.set_cons_zero, List.set_cons_succ]
          have K8 := Lib.hid (K5.out.below hb)
          have B9 := Lib.hid (B6.out.call hb)
          clear hb
          refine Segs.WL.val (some 6) (.bool true) W7 rfl (by kernel_rfl) (by kernel_rfl) ?_
          simp only [Act.put, List.setIfInBounds_toArray, List.set_cons_zero, List.set_cons_succ]
          refine Segs.WL.nil ?_
          go_upto_region 5 with (fail)
          refine wp_region_lit (Segs.WL.out ?_)
          refine Segs.WL.val (some 20) (.bool true) W7 rfl (by kernel_rfl) (by kernel_rfl) ?_
          simp only [Act.put, List.setIfInBounds_toArray, List.set_cons_zero, List.set_cons_succ]
          refine Segs.WL.val (some 21) (.bool false) W7 rfl (by kernel_rfl) (by kernel_rfl) ?_
          simp only [Act.put, List.setIfInBounds_toArray, List.set_cons_zero, List.set_cons_succ]
          refine Segs.WL.val (some 22) (.bool false) W7 rfl (by kernel_rfl) (by kernel_rfl) ?_
          simp only [Act.put, List.setIfInBounds_toArray, List.set_cons_zero, List.set_cons_succ]
          refine Segs.WL.val (some 23) (.string a1) W7 rfl (by kernel_rfl) (by kernel_rfl) ?_
          simp only [Act.put, List.setIfInBounds_toArray, List.set_cons_zero, List.set_cons_succ]
          refine Segs.WL.val (some 24) (.int .i64 (a1.size)) W7 rfl (by kernel_rfl) (by kernel_rfl) ?_
          simp only [Act.put, List.setIfInBounds_toArray, List.set_cons_zero, List.set_cons_succ]
          refine Segs.WL.val (some 25) (.bool (decide ((1000 : Int) < (a1.size : Int)))) W7 rfl (by kernel_rfl) (by kernel_rfl) ?_
          simp only [Act.put, List.setIfInBounds_toArray, List.set_cons_zero, List.set_cons_succ]
          rw [HLEN.out]
          refine Segs.WL.val (some 26) (.bool false) W7 rfl (by kernel_rfl) (by kernel_rfl) ?_
          simp only [Act.put, List.setIfInBounds_toArray, List.set_cons_zero, List.set_cons_succ]
          refine Segs.WL.nil ?_
          go_upto_region 7 with (fail)
          refine wp_region_lit (Segs.WL.out ?_)
          refine Segs.WL.val (some 29) (.agg CS) W7 rfl (by kernel_rfl) (Segs.run_row 25 (.tmp 2) rfl w.heap.size (by kernel_rfl) 25 CS _ K8.out Tryd.underlying25 rfl (info19 (NCS.out.size))) ?_
          simp only [Act.put, List.setIfInBounds_toArray, List.set_cons_zero, List.set_cons_succ]
          refine Segs.WL.call (some 30) 10 #[.agg CS] _ rfl (by kernel_rfl) (by kernel_rfl) (PUT.out W7 (LA.out _ B9.out.1).err) (fun e W10 hR => ?_)
          obtain ⟨rfl, hb⟩ := hR
          refine ⟨_, rfl, ?_⟩
          simp only [Act.put, List.setIfInBounds_toArray, List.set_cons_zero, List.set_cons_succ]
          have K11 := Lib.hid (K8.out.below hb)
          have B12 := Lib.hid (B9.out.call hb)
          clear hb
          refine Segs.WL.val (some 28) (.tuple #[.string S, .int .i64 0]) W10 rfl (by kernel_rfl) (by kernel_rfl) ?_
          simp only [Act.put, List.setIfInBounds_toArray, List.set_cons_zero, List.set_cons_succ]
          refine Segs.WL.val (some 31) (.string S) W10 rfl (by kernel_rfl) (by kernel_rfl) ?_
          simp only [Act.put, List.setIfInBounds_toArray, List.set_cons_zero, List.set_cons_succ]
          refine Segs.WL.val (some 32) (.int .i64 0) W10 rfl (by kernel_rfl) (by kernel_rfl) ?_
          simp only [Act.put, List.setIfInBounds_toArray, List.set_cons_zero, List.set_cons_succ]
          refine Segs.WL.val (some 7) (.string S) W10 rfl (by kernel_rfl) (by kernel_rfl) ?_
          simp only [Act.put, List.setIfInBounds_toArray, List.set_cons_zero, List.set_cons_succ]
          refine Segs.WL.val (some 8) (.int .i64 0) W10 rfl (by kernel_rfl) (by kernel_rfl) ?_
          simp only [Act.put, List.setIfInBounds_toArray, List.set_cons_zero, List.set_cons_succ]
          refine Segs.WL.nil ?_
          go_upto_region 8 with (fail)
          refine wp_region_lit (Segs.WL.out ?_)
          refine Segs.WL.val (some 34) (.string S) W10 rfl (by kernel_rfl) (by kernel_rfl) ?_
          simp only [Act.put, List.setIfInBounds_toArray, List.set_cons_zero, List.set_cons_succ]
          refine Segs.WL.call (some 35) 11 #[.string S] _ rfl (by kernel_rfl) (by kernel_rfl) (GS.out W10 (LA.out _ B12.out.1).err) (fun e W13 hR => ?_)
          obtain ⟨rfl, hb⟩ := hR
          refine ⟨_, rfl, ?_⟩
          simp only [Act.put, List.setIfInBounds_toArray, List.set_cons_zero, List.set_cons_succ]
          have K14 := Lib.hid (K11.out.below hb)
          have B15 := Lib.hid (B12.out.call hb)
          clear hb
          refine Segs.WL.val (some 33) (.tuple #[.agg CS, .int .i64 0]) W13 rfl (by kernel_rfl) (by kernel_rfl) ?_
          simp only [Act.put, List.setIfInBounds_toArray, List.set_cons_zero, List.set_cons_succ]
          refine Segs.WL.val (some 36) (.agg CS) W13 rfl (by kernel_rfl) (by kernel_rfl) ?_
          simp only [Act.put, List.setIfInBounds_toArray, List.set_cons_zero, List.set_cons_succ]
          refine Segs.WL.val (some 37) (.int .i64 0) W13 rfl (by kernel_rfl) (by kernel_rfl) ?_
          simp only [Act.put, List.setIfInBounds_toArray, List.set_cons_zero, List.set_cons_succ]
          obtain ⟨N1, hN1⟩ : ∃ n, n = W13.heap.size := ⟨_, rfl⟩
          have K17 := Lib.hid (K14.out.alloc (.cells Z0 25))
          have ne18 : w.heap.size ≠ N1 := by have := K14.out.lt; omega
          have K19 := Lib.hid (by have := Blk.new W13 25 Z0; rw [← hN1] at this; exact this : Blk (W13.alloc (.cells Z0 25)) N1 25 Z0)
          have B20 := Lib.hid (B15.out.alloc (.cells Z0 25))
          have ge21 : w.heap.size ≤ N1 := by rw [hN1]; exact B15.out.2
          refine Segs.WL.val (some 9) (.pointer (some ⟨N1, 0, none⟩)) (W13.alloc (.cells Z0 25)) rfl (by kernel_rfl) (by rw [hN1]; exact Segs.run_allocOf rfl Z0 (al_nd0 HZ.out)) ?_
          simp only [Act.put, List.setIfInBounds_toArray, List.set_cons_zero, List.set_cons_succ]
          generalize W13.alloc (.cells Z0 25) = W16 at K17 K19 B20 ⊢
          clear hN1
          have K23 := Lib.hid (K17.out.rowOther (g' := N1) (cs := CS) ne18)
          have K24 := Lib.hid (K19.out.row (cs := CS))
          have B25 := Lib.hid (Bl.setRow B20.out (g := N1) ge21 CS)
          refine Segs.WL.skip (W16.setRow N1 CS) rfl (by kernel_rfl) (Segs.run_storeRow rfl N1 CS (by kernel_rfl) (by kernel_rfl) 25 Z0 K19.out (info19 NCS.out.size) (NZ.out.size.trans NCS.out.size.symm) NCS.out.one) ?_
          generalize W16.setRow N1 CS = W22 at K23 K24 B25 ⊢
          refine Segs.WL.val (some 10) (.int .i64 0) W22 rfl (by kernel_rfl) (by kernel_rfl) ?_
          simp only [Act.put, List.setIfInBounds_toArray, List.set_cons_zero, List.set_cons_succ]
          refine Segs.WL.nil ?_
          go_upto_region 9 with (fail)
          refine wp_region_lit (Segs.WL.out ?_)
          refine Segs.WL.val (some 38) (.int .i64 0) W22 rfl (by kernel_rfl) (by kernel_rfl) ?_
          simp only [Act.put, List.setIfInBounds_toArray, List.set_cons_zero, List.set_cons_succ]
          refine Segs.WL.val (some 39) (.bool true) W22 rfl (by kernel_rfl) (by kernel_rfl) ?_
          simp only [Act.put, List.setIfInBounds_toArray, List.set_cons_zero, List.set_cons_succ]
          refine Segs.WL.val (some 40) (.agg CS) W22 rfl (by kernel_rfl) (Segs.run_row 25 (.tmp 2) rfl w.heap.size (by kernel_rfl) 25 CS _ K23.out Tryd.underlying25 rfl (info19 (NCS.out.size))) ?_
          simp only [Act.put, List.setIfInBounds_toArray, List.set_cons_zero, List.set_cons_succ]
          refine Segs.WL.call (some 41) 12 #[.agg CS] _ rfl (by kernel_rfl) (by kernel_rfl) (VAL.out W22 (LA.out _ B25.out.1).err) (fun e W26 hR => ?_)
          obtain ⟨rfl, hb⟩ := hR
          refine ⟨_, rfl, ?_⟩
          simp only [Act.put, List.setIfInBounds_toArray, List.set_cons_zero, List.set_cons_succ]
          have K27 := Lib.hid (K23.out.below hb)
          have K28 := Lib.hid (K24.out.below hb)
          have B29 := Lib.hid (B25.out.call hb)
          clear hb
          refine Segs.WL.val (some 42) (.bool false) W26 rfl (by kernel_rfl) (by kernel_rfl) ?_
          simp only [Act.put, List.setIfInBounds_toArray, List.set_cons_zero, List.set_cons_succ]
          refine Segs.WL.val (some 43) (.bool false) W26 rfl (by kernel_rfl) (by kernel_rfl) ?_
          simp only [Act.put, List.setIfInBounds_toArray, List.set_cons_zero, List.set_cons_succ]
          refine Segs.WL.val (some 44) (.int .i64 0) W26 rfl (by kernel_rfl) (by kernel_rfl) ?_
          simp only [Act.put, List.setIfInBounds_toArray, List.set_cons_zero, List.set_cons_succ]
          refine Segs.WL.val (some 45) (.bool true) W26 rfl (by kernel_rfl) (by kernel_rfl) ?_
          simp only [Act.put, List.setIfInBounds_toArray, List.set_cons_zero, List.set_cons_succ]
          refine Segs.WL.val (some 46) (.bool true) W26 rfl (by kernel_rfl) (by kernel_rfl) ?_
          simp only [Act.put, List.setIfInBounds_toArray, List.set_cons_zero, List.set_cons_succ]
          refine Segs.WL.val (some 47) (.int .i64 0) W26 rfl (by kernel_rfl) (by kernel_rfl) ?_
          simp only [Act.put, List.setIfInBounds_toArray, List.set_cons_zero, List.set_cons_succ]
          refine Segs.WL.val (some 48) (.bool false) W26 rfl (by kernel_rfl) (by kernel_rfl) ?_
          simp only [Act.put, List.setIfInBounds_toArray, List.set_cons_zero, List.set_cons_succ]
          refine Segs.WL.val (some 49) (.bool false) W26 rfl (by kernel_rfl) (by kernel_rfl) ?_
          simp only [Act.put, List.setIfInBounds_toArray, List.set_cons_zero, List.set_cons_succ]
          refine Segs.WL.val (some 50) (.agg CS) W26 rfl (by kernel_rfl) (Segs.run_row 25 (.tmp 9) rfl N1 (by kernel_rfl) 25 CS _ K28.out Tryd.underlying25 rfl (info19 (NCS.out.size))) ?_
          simp only [Act.put, List.setIfInBounds_toArray, List.set_cons_zero, List.set_cons_succ]
          refine Segs.WL.val (some 51) (.agg CS) W26 rfl (by kernel_rfl) (Segs.run_row 25 (.tmp 2) rfl w.heap.size (by kernel_rfl) 25 CS _ K27.out Tryd.underlying25 rfl (info19 (NCS.out.size))) ?_
          simp only [Act.put, List.setIfInBounds_toArray, List.set_cons_zero, List.set_cons_succ]
          refine Segs.WL.val (some 52) (.bool !true) W26 rfl (by kernel_rfl) (run_neq_of rfl CS CS HCS.out HCS.out (by kernel_rfl) (by kernel_rfl) H16.out H16.out true (decide_eq_true rfl)) ?_
          simp only [Act.put, List.setIfInBounds_toArray, List.set_cons_zero, List.set_cons_succ]
          refine Segs.WL.val (some 53) (.bool false) W26 rfl (by kernel_rfl) (by kernel_rfl) ?_
          simp only [Act.put, List.setIfInBounds_toArray, List.set_cons_zero, List.set_cons_succ]
          refine Segs.WL.val (some 54) (.bool false) W26 rfl (by kernel_rfl) (by kernel_rfl) ?_
          simp only [Act.put, List.setIfInBounds_toArray, List.set_cons_zero, List.set_cons_succ]
          refine Segs.WL.val (some 55) (.bool false) W26 rfl (by kernel_rfl) (by kernel_rfl) ?_
          simp only [Act.put, List.setIfInBounds_toArray, List.set_cons_zero, List.set_cons_succ]
          refine Segs.WL.val (some 56) (.bool false) W26 rfl (by kernel_rfl) (by kernel_rfl) ?_
          simp only [Act.put, List.setIfInBounds_toArray, List.set_cons_zero, List.set_cons_succ]
          refine Segs.WL.val (some 57) (.int .i64 0) W26 rfl (by kernel_rfl) (by kernel_rfl) ?_
          simp only [Act.put, List.setIfInBounds_toArray, List.set_cons_zero, List.set_cons_succ]
          refine Segs.WL.val (some 58) (.bool false) W26 rfl (by kernel_rfl) (by kernel_rfl) ?_
          simp only [Act.put, List.setIfInBounds_toArray, List.set_cons_zero, List.set_cons_succ]
          refine Segs.WL.val (some 59) (.bool false) W26 rfl (by kernel_rfl) (by kernel_rfl) ?_
          simp only [Act.put, List.setIfInBounds_toArray, List.set_cons_zero, List.set_cons_succ]
          refine Segs.WL.not (some 60) rfl (by kernel_rfl) ?_
          simp only [Act.put, List.setIfInBounds_toArray, List.set_cons_zero, List.set_cons_succ]
          refine Segs.WL.not (some 61) rfl (by kernel_rfl) ?_
          simp only [Act.put, List.setIfInBounds_toArray, List.set_cons_zero, List.set_cons_succ]
          refine Segs.WL.val (some 62) (.bool false) W26 rfl (by kernel_rfl) (by kernel_rfl) ?_
          simp only [Act.put, List.setIfInBounds_toArray, List.set_cons_zero, List.set_cons_succ]
          refine Segs.WL.val (some 63) (.bool false) W26 rfl (by kernel_rfl) (by kernel_rfl) ?_
          simp only [Act.put, List.setIfInBounds_toArray, List.set_cons_zero, List.set_cons_succ]
          refine Segs.WL.nil ?_
          go_upto_region 11 with (fail)
          refine wp_region_lit (Segs.WL.out ?_)
          refine Segs.WL.val (some 65) (.string a1) W26 rfl (by kernel_rfl) (by kernel_rfl) ?_
          simp only [Act.put, List.setIfInBounds_toArray, List.set_cons_zero, List.set_cons_succ]
          refine Segs.WL.call (some 66) 11 #[.string a1] _ rfl (by kernel_rfl) (by kernel_rfl) (GET1.out W26 (LA.out _ B29.out.1).err) (fun e W30 hR => ?_)
          obtain ⟨rfl, hb⟩ := hR
          refine ⟨_, rfl, ?_⟩
          simp only [Act.put, List.setIfInBounds_toArray, List.set_cons_zero, List.set_cons_succ]
          have K31 := Lib.hid (K27.out.below hb)
          have K32 := Lib.hid (K28.out.below hb)
          have B33 := Lib.hid (B29.out.call hb)
          clear hb
          refine Segs.WL.val (some 64) (.tuple #[.agg CO, .int .i64 0]) W30 rfl (by kernel_rfl) (by kernel_rfl) ?_
          simp only [Act.put, List.setIfInBounds_toArray, List.set_cons_zero, List.set_cons_succ]
          refine Segs.WL.val (some 67) (.agg CO) W30 rfl (by kernel_rfl) (by kernel_rfl) ?_
          simp only [Act.put, List.setIfInBounds_toArray, List.set_cons_zero, List.set_cons_succ]
          refine Segs.WL.val (some 68) (.int .i64 0) W30 rfl (by kernel_rfl) (by kernel_rfl) ?_
          simp only [Act.put, List.setIfInBounds_toArray, List.set_cons_zero, List.set_cons_succ]
          obtain ⟨N2, hN2⟩ : ∃ n, n = W30.heap.size := ⟨_, rfl⟩
          have K35 := Lib.hid (K31.out.alloc (.cells Z0 25))
          have ne36 : w.heap.size ≠ N2 := by have := K31.out.lt; omega
          have K37 := Lib.hid (K32.out.alloc (.cells Z0 25))
          have ne38 : N1 ≠ N2 := by have := K32.out.lt; omega
          have K39 := Lib.hid (by have := Blk.new W30 25 Z0; rw [← hN2] at this; exact this : Blk (W30.alloc (.cells Z0 25)) N2 25 Z0)
          have B40 := Lib.hid (B33.out.alloc (.cells Z0 25))
          have ge41 : w.heap.size ≤ N2 := by rw [hN2]; exact B33.out.2
          refine Segs.WL.val (some 11) (.pointer (some ⟨N2, 0, none⟩)) (W30.alloc (.cells Z0 25)) rfl (by kernel_rfl) (by rw [hN2]; exact Segs.run_allocOf rfl Z0 (al_nd0 HZ.out)) ?_
          simp only [Act.put, List.setIfInBounds_toArray, List.set_cons_zero, List.set_cons_succ]
          generalize W30.alloc (.cells Z0 25) = W34 at K35 K37 K39 B40 ⊢
          clear hN2
          have K43 := Lib.hid (K35.out.rowOther (g' := N2) (cs := CO) ne36)
          have K44 := Lib.hid (K37.out.rowOther (g' := N2) (cs := CO) ne38)
          have K45 := Lib.hid (K39.out.row (cs := CO))
          have B46 := Lib.hid (Bl.setRow B40.out (g := N2) ge41 CO)
          refine Segs.WL.skip (W34.setRow N2 CO) rfl (by kernel_rfl) (Segs.run_storeRow rfl N2 CO (by kernel_rfl) (by kernel_rfl) 25 Z0 K39.out (info19 NCO.out.size) (NZ.out.size.trans NCO.out.size.symm) NCO.out.one) ?_
          generalize W34.setRow N2 CO = W42 at K43 K44 K45 B46 ⊢
          refine Segs.WL.val (some 12) (.int .i64 0) W42 rfl (by kernel_rfl) (by kernel_rfl) ?_
          simp only [Act.put, List.setIfInBounds_toArray, List.set_cons_zero, List.set_cons_succ]
          refine Segs.WL.nil ?_
          go_upto_region 12 with (fail)
          refine wp_region_lit (Segs.WL.out ?_)
          refine Segs.WL.val (some 69) (.int .i64 0) W42 rfl (by kernel_rfl) (by kernel_rfl) ?_
          simp only [Act.put, List.setIfInBounds_toArray, List.set_cons_zero, List.set_cons_succ]
          refine Segs.WL.val (some 70) (.bool false) W42 rfl (by kernel_rfl) (by kernel_rfl) ?_
          simp only [Act.put, List.setIfInBounds_toArray, List.set_cons_zero, List.set_cons_succ]
          refine Segs.WL.nil ?_
          go_upto_region 14 with (fail)
          refine wp_region_lit (Segs.WL.out ?_)
          refine Segs.WL.val (some 78) (.agg CO) W42 rfl (by kernel_rfl) (Segs.run_row 25 (.tmp 11) rfl N2 (by kernel_rfl) 25 CO _ K45.out Tryd.underlying25 rfl (info19 (NCO.out.size))) ?_
          simp only [Act.put, List.setIfInBounds_toArray, List.set_cons_zero, List.set_cons_succ]
          refine Segs.WL.call (some 79) 10 #[.agg CO] _ rfl (by kernel_rfl) (by kernel_rfl) (PUTO.out W42 (LA.out _ B46.out.1).err) (fun e W47 hR => ?_)
          obtain ⟨rfl, hb⟩ := hR
          refine ⟨_, rfl, ?_⟩
          simp only [Act.put, List.setIfInBounds_toArray, List.set_cons_zero, List.set_cons_succ]
          have K48 := Lib.hid (K43.out.below hb)
          have K49 := Lib.hid (K44.out.below hb)
          have K50 := Lib.hid (K45.out.below hb)
          have B51 := Lib.hid (B46.out.call hb)
          clear hb
          refine Segs.WL.val (some 77) (.tuple #[.string a1, .int .i64 0]) W47 rfl (by kernel_rfl) (by kernel_rfl) ?_
          simp only [Act.put, List.setIfInBounds_toArray, List.set_cons_zero, List.set_cons_succ]
          refine Segs.WL.val (some 80) (.string a1) W47 rfl (by kernel_rfl) (by kernel_rfl) ?_
          simp only [Act.put, List.setIfInBounds_toArray, List.set_cons_zero, List.set_cons_succ]
          refine Segs.WL.val (some 81) (.int .i64 0) W47 rfl (by kernel_rfl) (by kernel_rfl) ?_
          simp only [Act.put, List.setIfInBounds_toArray, List.set_cons_zero, List.set_cons_succ]
          refine Segs.WL.val (some 13) (.string a1) W47 rfl (by kernel_rfl) (by kernel_rfl) ?_
          simp only [Act.put, List.setIfInBounds_toArray, List.set_cons_zero, List.set_cons_succ]
          refine Segs.WL.val (some 14) (.int .i64 0) W47 rfl (by kernel_rfl) (by kernel_rfl) ?_
          simp only [Act.put, List.setIfInBounds_toArray, List.set_cons_zero, List.set_cons_succ]
          refine Segs.WL.nil ?_
          go_upto_region 15 with (fail)
          refine wp_region_lit (Segs.WL.out ?_)
          refine Segs.WL.val (some 82) (.bool true) W47 rfl (by kernel_rfl) (by kernel_rfl) ?_
          simp only [Act.put, List.setIfInBounds_toArray, List.set_cons_zero, List.set_cons_succ]
          refine Segs.WL.val (some 83) (.bool true) W47 rfl (by kernel_rfl) (by kernel_rfl) ?_
          simp only [Act.put, List.setIfInBounds_toArray, List.set_cons_zero, List.set_cons_succ]
          refine Segs.WL.val (some 84) (.int .i64 0) W47 rfl (by kernel_rfl) (by kernel_rfl) ?_
          simp only [Act.put, List.setIfInBounds_toArray, List.set_cons_zero, List.set_cons_succ]
          refine Segs.WL.val (some 85) (.bool true) W47 rfl (by kernel_rfl) (by kernel_rfl) ?_
          simp only [Act.put, List.setIfInBounds_toArray, List.set_cons_zero, List.set_cons_succ]
          refine Segs.WL.val (some 86) (.bool true) W47 rfl (by kernel_rfl) (by kernel_rfl) ?_
          simp only [Act.put, List.setIfInBounds_toArray, List.set_cons_zero, List.set_cons_succ]
          refine Segs.WL.val (some 87) (.bool true) W47 rfl (by kernel_rfl) (by kernel_rfl) ?_
          simp only [Act.put, List.setIfInBounds_toArray, List.set_cons_zero, List.set_cons_succ]
          refine Segs.WL.val (some 88) (.string a1) W47 rfl (by kernel_rfl) (by kernel_rfl) ?_
          simp only [Act.put, List.setIfInBounds_toArray, List.set_cons_zero, List.set_cons_succ]
          refine Segs.WL.val (some 89) (.string a1) W47 rfl (by kernel_rfl) (by kernel_rfl) ?_
          simp only [Act.put, List.setIfInBounds_toArray, List.set_cons_zero, List.set_cons_succ]
          refine Segs.WL.val (some 90) (.bool true) W47 rfl (by kernel_rfl) (run_eqs rfl a1 a1 (by kernel_rfl) (by kernel_rfl) true (by first | rfl | exact decide_eq_true rfl)) ?_
          simp only [Act.put, List.setIfInBounds_toArray, List.set_cons_zero, List.set_cons_succ]
          refine Segs.WL.val (some 91) (.bool true) W47 rfl (by kernel_rfl) (by kernel_rfl) ?_
          simp only [Act.put, List.setIfInBounds_toArray, List.set_cons_zero, List.set_cons_succ]
          refine Segs.WL.val (some 92) (.bool true) W47 rfl (by kernel_rfl) (by kernel_rfl) ?_
          simp only [Act.put, List.setIfInBounds_toArray, List.set_cons_zero, List.set_cons_succ]
          refine Segs.WL.val (some 93) (.agg CO) W47 rfl (by kernel_rfl) (Segs.run_row 25 (.tmp 11) rfl N2 (by kernel_rfl) 25 CO _ K50.out Tryd.underlying25 rfl (info19 (NCO.out.size))) ?_
          simp only [Act.put, List.setIfInBounds_toArray, List.set_cons_zero, List.set_cons_succ]
          refine Segs.WL.call (some 94) 12 #[.agg CO] _ rfl (by kernel_rfl) (by kernel_rfl) (VALO.out W47 (LA.out _ B51.out.1).err) (fun e W52 hR => ?_)
          obtain ⟨rfl, hb⟩ := hR
          refine ⟨_, rfl, ?_⟩
          simp only [Act.put, List.setIfInBounds_toArray, List.set_cons_zero, List.set_cons_succ]
          have K53 := Lib.hid (K48.out.below hb)
          have K54 := Lib.hid (K49.out.below hb)
          have K55 := Lib.hid (K50.out.below hb)
          have B56 := Lib.hid (B51.out.call hb)
          clear hb
          refine Segs.WL.val (some 95) (.bool true) W52 rfl (by kernel_rfl) (by kernel_rfl) ?_
          simp only [Act.put, List.setIfInBounds_toArray, List.set_cons_zero, List.set_cons_succ]
          refine Segs.WL.val (some 4) (.bool true) W52 rfl (by kernel_rfl) (by kernel_rfl) ?_
          simp only [Act.put, List.setIfInBounds_toArray, List.set_cons_zero, List.set_cons_succ]
          refine Segs.WL.nil ?_
          go_wp2_with fail
          go_ret
          exact ⟨rfl, B56.out.1⟩
set_option maxRecDepth 100000 in
theorem lifted (os : Os) (started : os.Started) (H : Type) (enc : TypeId × Value → H) :
    ReturnsInHanded {} Tryd.checked os 3 .any (fun w args => (Rows.nodeBackSpec.pre enc Tryd.prog Tryd.f3 [] false w args ∧ laidMetH Tryd.prog Rows.nodeBackRow.laid w) ∧ sizedMet enc Tryd.prog Tryd.f3 (OpenSpec.ofChange Rows.nodeBackSpec) false w args)
      (Rows.nodeBackSpec.post enc Tryd.prog Tryd.f3 false true false false) := by
  refine returnsInHanded_of_change_and (C := Tryd.checked) (X := fun w _ => laidMetH Tryd.prog Rows.nodeBackRow.laid w) (fun _ _ _ hh h => h.of_heap hh) own started (by kernel_rfl) Tryd.func3
    (ChangeSpec.witness_shaped (enc := enc) (C := Tryd.checked) (os := os) (X := fun w _ => laidMetH Tryd.prog Rows.nodeBackRow.laid w) false (World.doorLaid Tryd.prog 400 os) #[.agg #[.int .i64 0, .string ByteArray.empty, .string ByteArray.empty, .string ByteArray.empty, .string ByteArray.empty, .string ByteArray.empty, .string ByteArray.empty, .string ByteArray.empty, .string ByteArray.empty, .string ByteArray.empty, .string ByteArray.empty, .string ByteArray.empty, .string ByteArray.empty, .string ByteArray.empty, .string ByteArray.empty, .string ByteArray.empty, .string ByteArray.empty, .string ByteArray.empty, .string ByteArray.empty], .string ByteArray.empty] 8 rfl (World.shaped_of_RefB (by kernel_rfl) (by kernel_rfl)) (by kernel_rfl) (by kernel_rfl) (by kernel_rfl) (door_met os _)) ?_
  intro W base args ds gs before hval0 hW _ _ hL _
  have hval : ∀ (j : Nat) t v, Tryd.f3.params[j]? = some t → args[j]? = some v → Value.okWide Tryd.prog W .any base t v := hval0
  have hW' := hW
  obtain ⟨p, q, hA0, hV, rfl, hfz, hnd⟩ := hW
  have hA : DataW.TrodAll enc Tryd.prog W 0 (fun _ => true) true Tryd.f3.params.toList args.toList ds p := hA0
  rw [Tryd.params3] at hA hval
  obtain ⟨v0, vs0, d0, ds0, p0, q0, hargs, rfl, rfl, h0, r0⟩ := trodAll_cons hA
  obtain ⟨v1, vs1, d1, ds1, p1, q1, rfl, rfl, rfl, h1, r1⟩ := trodAll_cons r0
  obtain ⟨rfl, rfl, rfl⟩ := trodAll_nil r1
  obtain rfl : args = #[v0, v1] := by cases args; simp_all
  obtain ⟨rfl, rfl⟩ := trodVars_none hV
  obtain ⟨a0, rfl, rfl, rfl, w0⟩ := open_nd (hval 0 25 v0 rfl rfl) h0
  obtain ⟨a1, rfl, rfl, rfl, w1⟩ := open_string Tryd.underlying9 (hval 1 9 v1 rfl rfl) h1
  have hl : LaidN W := laid_of hL
  clear hA0 hval0
  simp only [List.append_nil] at hW'
  refine (walk a0 a1 w0 w1 W hl).mono fun e W' ⟨he, bel⟩ => ?_
  subst he
  exact ⟨_, rfl, _, _, _, [], [], [], hW', trodAll_mk1 (shut_bool Tryd.underlying4 _), (trodAll_cons_mk (shut_nd w0) (trodAll_cons_mk (shut_string Tryd.underlying9 w1) trodAll_mk0)), rfl, bel.frame _, fun h => by cases h⟩
theorem over : Rows.NodeBackSaid :=
  OpenClaim.holds_of_wide 3 Tryd.f3 rfl rfl rfl rfl rfl rfl rfl ⟨rfl, rfl, rfl, rfl, rfl⟩ rfl rfl rfl rfl rfl (by kernel_rfl) Tryd.func3 (by kernel_rfl)
    (of_decide_eq_true (by kernel_rfl)) (by unfold Func.isWrapper; rw [if_neg (by decide +kernel)]; exact ⟨rfl, rfl⟩)
    (fun os started H enc _ => lifted os started H enc)
theorem proved : Rows.NodeBackCardSaid :=
  Claim7.holds_tied_plain_at .later [] [.data, .data, .handle] true Rows.nodeBackCard.stood.harness true
    over (fun _ h => by cases h) (by kernel_rfl) (fun _ h => by cases h) nodeBack_row_tie rfl ⟨rfl, rfl⟩ (by kernel_rfl) rfl
    (fun f fn hf hfn => by
      obtain rfl : f = 3 := Option.some.inj ((show Tryd.prog.funcNamed "guilloche/guillochelaw04.NodeBack" = some 3 by kernel_rfl).symm.trans hf) |>.symm
      obtain rfl : fn = Tryd.f3 := (Option.some.inj (Tryd.func3.symm.trans hfn)).symm
      exact ⟨by kernel_rfl, fun j t ht => by
        rw [Tryd.params3] at ht
        have hm : t ∈ [25, 9] := by simpa using Array.mem_of_getElem? ht
        have hall : ([25, 9].all fun u => !Tryd.prog.wantsStandIn u) = true := by kernel_rfl
        exact (show Tryd.prog.wantsStandIn t = false by simpa using List.all_eq_true.1 hall t hm)⟩)
    (by kernel_rfl)
end Go.Proofs.YtljadanalcfdeaaDoor.nodeBack

/-
  PROVED HERE: the law NodeCuts returns true for every input (a node's bytes that end too early, or have something behind them, are none; and none has more than 700). What sha's tables and errors.errorType hold is as the program lays it (tied).
-/
import Derived.Test.YtljadanalcfdeaaDoorNodeCutsP
import Derived.Test.YtljadanalcfdeaaDoorCards
import Derived.Test.YtljadanalcfdeaaDoorTie
import Derived.WalkKit
import Derived.ProofKit
import Derived.LaidMore
import Derived.OpenShut
import Derived.ShutString
import Derived.ChangeOld
import Derived.Below
import Derived.Stop.Joined
import Derived.SevenTiedAt
namespace Go.Proofs.YtljadanalcfdeaaDoor.nodeCuts
open Go.ChangeShapes Go.WideShapes Go.ChangeAt Go.RowKit Go.Proofs.Nod
open Go.ChangeMaps (open_string shut_string)
set_option linter.unusedVariables false
set_option linter.unusedSimpArgs false
set_option maxRecDepth 100000 in
set_option maxHeartbeats 32000000 in
theorem walk (a0 : Nd) (a1 : Int) (a2 : ByteArray) (w0 : NdOk a0) (w1 : (Lit.int .u16 a1).wf = true) (w2 : a2.size ≤ maxLen) (w : World) (hl : LaidN w) :
    Calls Tryd.prog 6 #[.agg (ndC a0), .int .u16 a1, .string a2] w fun e w' => e = .returned (.bool true) ∧ Below w.heap.size w w' := by
  have h0 : 0 ≤ a1 ∧ a1 ≤ 65535 := by
    have g0 : IntKind.u16.min ≤ a1 ∧ a1 ≤ IntKind.u16.max := by simpa [Lit.wf] using w1
    exact g0
  obtain ⟨p, rfl⟩ : ∃ p : Nat, a1 = p := ⟨a1.toNat, by omega⟩
  have hp : p ≤ 65535 := by omega
  clear h0 w1
  have WK := Lib.hid (fun W h => nworks_any W h)
  have LA : Hid (∀ W, Below w.heap.size w W → LaidN W) := Lib.hid (fun W h => hl.on h)
  have few := fun W => few_any a0 W (fun i hi => w0.each _ (rf_mem a0 i hi)) w0.path w0.value
  have h16 := w0.refs
  obtain ⟨CS, hCS⟩ : ∃ z, z = ndC a0 := ⟨_, rfl⟩
  have NCS := Lib.hid (show Ndc CS by rw [hCS]; exact .of _)
  obtain ⟨Z0, hZ0⟩ : ∃ z, z = ndC zeroN := ⟨_, rfl⟩
  have NZ := Lib.hid (show Ndc Z0 by rw [hZ0]; exact .of _)
  have HZ := Lib.hid hZ0
  have put := fun W h => put_all a0 W h16 (fun r _ h => get_any r (by omega)) h
  unfold Ptd putB at put
  rw [← hCS] at few put ⊢
  unfold maxLen at w2
  rcases hfw : fewB a0 with _ | _
  · rw [hfw] at few
    have FEW := Lib.hid few
    obtain ⟨PB, hPB⟩ : ∃ b, b = (if validB a0 = true then bytesB a0 else e0) := ⟨_, rfl⟩
    obtain ⟨EE, hEE⟩ : ∃ b : Int, b = (if validB a0 = true then 0 else 1) := ⟨_, rfl⟩
    rw [← hPB, ← hEE] at put
    have PUT := Lib.hid put
    clear hl few hCS hZ0 hfw w0 h16 put hPB hEE w2 hp
    have B0 := Lib.hid (Bl.start w)
    have K1 := Lib.hid (by have := Blk.new (w) 25 CS; simpa using this : Blk ((w).alloc (.cells CS 25)) w.heap.size 25 CS)
    have B2 := Lib.hid (B0.out.alloc (.cells CS 25))
    go_enter Tryd.func6, Tryd.ntmps6
    go_upto_region 1 with (fail)
    generalize w.alloc (.cells CS 25) = W3 at K1 B2 ⊢
    refine wp_region_lit (Segs.WL.out ?_)
    refine Segs.WL.call (some 15) 8 #[] _ rfl (by kernel_rfl) (by kernel_rfl) (WK.out W3 (LA.out _ B2.out.1)) (fun e W4 hR => ?_)
    obtain ⟨rfl, hb⟩ := hR
    refine ⟨_, rfl, ?_⟩
    simp only [Act.put, List.setIfInBounds_toArray, List.set_cons_zero, List.set_cons_succ]
    have K5 := Lib.hid (K1.out.below hb)
    have B6 := Lib.hid (B2.out.call hb)
    clear hb
    refine Segs.WL.val (some 7) (.bool true) W4 rfl (by kernel_rfl) (by kernel_rfl) ?_
    simp only [Act.put, List.setIfInBounds_toArray, List.set_cons_zero, List.set_cons_succ]
    refine Segs.WL.nil ?_
    go_upto_region 2 with (fail)
    refine wp_region_lit (Segs.WL.out ?_)
    refine Segs.WL.val (some 16) (.bool true) W4 rfl (by kernel_rfl) (by kernel_rfl) ?_
    simp only [Act.put, List.setIfInBounds_toArray, List.set_cons_zero, List.set_cons_succ]
    refine Segs.WL.val (some 17) (.bool false) W4 rfl (by kernel_rfl) (by kernel_rfl) ?_
    simp only [Act.put, List.setIfInBounds_toArray, List.set_cons_zero, List.set_cons_succ]
    refine Segs.WL.nil ?_
    go_upto_region 4 with (fail)
    refine wp_region_lit (Segs.WL.out ?_)
    refine Segs.WL.val (some 18) (.agg CS) W4 rfl (by kernel_rfl) (Segs.run_row 25 (.tmp 3) rfl w.heap.size (by kernel_rfl) 25 CS _ K5.out Tryd.underlying25 rfl (info19 (NCS.out.size))) ?_
    simp only [Act.put, List.setIfInBounds_toArray, List.set_cons_zero, List.set_cons_succ]
    refine Segs.WL.call (some 19) 9 #[.agg CS] _ rfl (by kernel_rfl) (by kernel_rfl) (FEW.out W4) (fun e W7 hR => ?_)
    obtain ⟨rfl, hb⟩ := hR
    refine ⟨_, rfl, ?_⟩
    simp only [Act.put, List.setIfInBounds_toArray, List.set_cons_zero, List.set_cons_succ]
    have K8 := Lib.hid (K5.out.below hb)
    have B9 := Lib.hid (B6.out.call hb)
    clear hb
    refine Segs.WL.val (some 8) (.bool false) W7 rfl (by kernel_rfl) (by kernel_rfl) ?_
    simp only [Act.put, List.setIfInBounds_toArray, List.set_cons_zero, List.set_cons_succ]
    refine Segs.WL.nil ?_
    go_upto_region 5 with (fail)
    refine wp_region_lit (Segs.WL.out ?_)
    refine Segs.WL.val (some 21) (.agg CS) W7 rfl (by kernel_rfl) (Segs.run_row 25 (.tmp 3) rfl w.heap.size (by kernel_rfl) 25 CS _ K8.out Tryd.underlying25 rfl (info19 (NCS.out.size))) ?_
    simp only [Act.put, List.setIfInBounds_toArray, List.set_cons_zero, List.set_cons_succ]
    refine Segs.WL.call (some 22) 10 #[.agg CS] _ rfl (by kernel_rfl) (by kernel_rfl) (PUT.out W7 (LA.out _ B9.out.1).err) (fun e W10 hR => ?_)
    obtain ⟨rfl, hb⟩ := hR
    refine ⟨_, rfl, ?_⟩
    simp only [Act.put, List.setIfInBounds_toArray, List.set_cons_zero, List.set_cons_succ]
    have K11 := Lib.hid (K8.out.below hb)
    have B12 := Lib.hid (B9.out.call hb)
    clear hb
    refine Segs.WL.val (some 20) (.tuple #[.string PB, .int .i64 EE]) W10 rfl (by kernel_rfl) (by kernel_rfl) ?_
    simp only [Act.put, List.setIfInBounds_toArray, List.set_cons_zero, List.set_cons_succ]
    refine Segs.WL.val (some 23) (.string PB) W10 rfl (by kernel_rfl) (by kernel_rfl) ?_
    simp only [Act.put, List.setIfInBounds_toArray, List.set_cons_zero, List.set_cons_succ]
    refine Segs.WL.val (some 24) (.int .i64 EE) W10 rfl (by kernel_rfl) (by kernel_rfl) ?_
    simp only [Act.put, List.setIfInBounds_toArray, List.set_cons_zero, List.set_cons_succ]
    refine Segs.WL.val (some 9) (.string PB) W10 rfl (by kernel_rfl) (by kernel_rfl) ?_
    simp only [Act.put, List.setIfInBounds_toArray, List.set_cons_zero, List.set_cons_succ]
    refine Segs.WL.val (some 10) (.int .i64 EE) W10 rfl (by kernel_rfl) (by kernel_rfl) ?_
    simp only [Act.put, List.setIfInBounds_toArray, List.set_cons_zero, List.set_cons_succ]
    refine Segs.WL.nil ?_
    go_upto_region 6 with (fail)
    refine wp_region_lit (Segs.WL.out ?_)
    refine Segs.WL.val (some 25) (.bool false) W10 rfl (by kernel_rfl) (by kernel_rfl) ?_
    simp only [Act.put, List.setIfInBounds_toArray, List.set_cons_zero, List.set_cons_succ]
    refine Segs.WL.val (some 26) (.bool true) W10 rfl (by kernel_rfl) (by kernel_rfl) ?_
    simp only [Act.put, List.setIfInBounds_toArray, List.set_cons_zero, List.set_cons_succ]
    refine Segs.WL.val (some 27) (.bool true) W10 rfl (by kernel_rfl) (by kernel_rfl) ?_
    simp only [Act.put, List.setIfInBounds_toArray, List.set_cons_zero, List.set_cons_succ]
    refine Segs.WL.not (some 28) rfl (by kernel_rfl) ?_
    simp only [Act.put, List.setIfInBounds_toArray, List.set_cons_zero, List.set_cons_succ]
    refine Segs.WL.not (some 29) rfl (by kernel_rfl) ?_
    simp only [Act.put, List.setIfInBounds_toArray, List.set_cons_zero, List.set_cons_succ]
    refine Segs.WL.val (some 30) (.bool true) W10 rfl (by kernel_rfl) (by kernel_rfl) ?_
    simp only [Act.put, List.setIfInBounds_toArray, List.set_cons_zero, List.set_cons_succ]
    refine Segs.WL.val (some 31) (.bool true) W10 rfl (by kernel_rfl) (by kernel_rfl) ?_
    simp only [Act.put, List.setIfInBounds_toArray, List.set_cons_zero, List.set_cons_succ]
    refine Segs.WL.not (some 32) rfl (by kernel_rfl) ?_
    simp only [Act.put, List.setIfInBounds_toArray, List.set_cons_zero, List.set_cons_succ]
    refine Segs.WL.not (some 33) rfl (by kernel_rfl) ?_
    simp only [Act.put, List.setIfInBounds_toArray, List.set_cons_zero, List.set_cons_succ]
    refine Segs.WL.not (some 34) rfl (by kernel_rfl) ?_
    simp only [Act.put, List.setIfInBounds_toArray, List.set_cons_zero, List.set_cons_succ]
    refine Segs.WL.val (some 35) (.bool true) W10 rfl (by kernel_rfl) (by kernel_rfl) ?_
    simp only [Act.put, List.setIfInBounds_toArray, List.set_cons_zero, List.set_cons_succ]
    refine Segs.WL.nil ?_
    go_wp2_with fail
    go_ret
    exact ⟨rfl, B12.out.1⟩
  · rw [hfw] at few
    have FEW := Lib.hid few
    rcases hv : validB a0 with _ | _
    · rw [hv] at put
      simp only [Bool.false_eq_true, if_false] at put
      have PUT := Lib.hid put
      clear hl few hCS hZ0 hfw w0 h16 put hv w2 hp
      have B0 := Lib.hid (Bl.start w)
      have K1 := Lib.hid (by have := Blk.new (w) 25 CS; simpa using this : Blk ((w).alloc (.cells CS 25)) w.heap.size 25 CS)
      have B2 := Lib.hid (B0.out.alloc (.cells CS 25))
      go_enter Tryd.func6, Tryd.ntmps6
      go_upto_region 1 with (fail)
      generalize w.alloc (.cells CS 25) = W3 at K1 B2 ⊢
      refine wp_region_lit (Segs.WL.out ?_)
      refine Segs.WL.call (some 15) 8 #[] _ rfl (by kernel_rfl) (by kernel_rfl) (WK.out W3 (LA.out _ B2.out.1)) (fun e W4 hR => ?_)
      obtain ⟨rfl, hb⟩ := hR
      refine ⟨_, rfl, ?_⟩
      simp only [Act.put, List.setIfInBounds_toArray, List.set_cons_zero, List.set_cons_succ]
      have K5 := Lib.hid (K1.out.below hb)
      have B6 := Lib.hid (B2.out.call hb)
      clear hb
      refine Segs.WL.val (some 7) (.bool true) W4 rfl (by kernel_rfl) (by kernel_rfl) ?_
      simp only [Act.put, List.setIfInBounds_toArray, List.set_cons_zero, List.set_cons_succ]
      refine Segs.WL.nil ?_
      go_upto_region 2 with (fail)
      refine wp_region_lit (Segs.WL.out ?_)
      refine Segs.WL.val (some 16) (.bool true) W4 rfl (by kernel_rfl) (by kernel_rfl) ?_
      simp only [Act.put, List.setIfInBounds_toArray, List.set_cons_zero, List.set_cons_succ]
      refine Segs.WL.val (some 17) (.bool false) W4 rfl (by kernel_rfl) (by kernel_rfl) ?_
      simp only [Act.put, List.setIfInBounds_toArray, List.set_cons_zero, List.set_cons_succ]
      refine Segs.WL.nil ?_
      go_upto_region 4 with (fail)
      refine wp_region_lit (Segs.WL.out ?_)
      refine Segs.WL.val (some 18) (.agg CS) W4 rfl (by kernel_rfl) (Segs.run_row 25 (.tmp 3) rfl w.heap.size (by kernel_rfl) 25 CS _ K5.out Tryd.underlying25 rfl (info19 (NCS.out.size))) ?_
      simp only [Act.put, List.setIfInBounds_toArray, List.set_cons_zero, List.set_cons_succ]
      refine Segs.WL.call (some 19) 9 #[.agg CS] _ rfl (by kernel_rfl) (by kernel_rfl) (FEW.out W4) (fun e W7 hR => ?_)
      obtain ⟨rfl, hb⟩ := hR
      refine ⟨_, rfl, ?_⟩
      simp only [Act.put, List.setIfInBounds_toArray, List.set_cons_zero, List.set_cons_succ]
      have K8 := Lib.hid (K5.out.below hb)
      have B9 := Lib.hid (B6.out.call hb)
      clear hb
      refine Segs.WL.val (some 8) (.bool true) W7 rfl (by kernel_rfl) (by kernel_rfl) ?_
      simp only [Act.put, List.setIfInBounds_toArray, List.set_cons_zero, List.set_cons_succ]
      refine Segs.WL.nil ?_
      go_upto_region 5 with (fail)
      refine wp_region_lit (Segs.WL.out ?_)
      refine Segs.WL.val (some 21) (.agg CS) W7 rfl (by kernel_rfl) (Segs.run_row 25 (.tmp 3) rfl w.heap.size (by kernel_rfl) 25 CS _ K8.out Tryd.underlying25 rfl (info19 (NCS.out.size))) ?_
      simp only [Act.put, List.setIfInBounds_toArray, List.set_cons_zero, List.set_cons_succ]
      refine Segs.WL.call (some 22) 10 #[.agg CS] _ rfl (by kernel_rfl) (by kernel_rfl) (PUT.out W7 (LA.out _ B9.out.1).err) (fun e W10 hR => ?_)
      obtain ⟨rfl, hb⟩ := hR
      refine ⟨_, rfl, ?_⟩
      simp only [Act.put, List.setIfInBounds_toArray, List.set_cons_zero, List.set_cons_succ]
      have K11 := Lib.hid (K8.out.below hb)
      have B12 := Lib.hid (B9.out.call hb)
      clear hb
      refine Segs.WL.val (some 20) (.tuple #[.string e0, .int .i64 1]) W10 rfl (by kernel_rfl) (by kernel_rfl) ?_
      simp only [Act.put, List.setIfInBounds_toArray, List.set_cons_zero, List.set_cons_succ]
      refine Segs.WL.val (some 23) (.string e0) W10 rfl (by kernel_rfl) (by kernel_rfl) ?_
      simp only [Act.put, List.setIfInBounds_toArray, List.set_cons_zero, List.set_cons_succ]
      refine Segs.WL.val (some 24) (.int .i64 1) W10 rfl (by kernel_rfl) (by kernel_rfl) ?_
      simp only [Act.put, List.setIfInBounds_toArray, List.set_cons_zero, List.set_cons_succ]
      refine Segs.WL.val (some 9) (.string e0) W10 rfl (by kernel_rfl) (by kernel_rfl) ?_
      simp only [Act.put, List.setIfInBounds_toArray, List.set_cons_zero, List.set_cons_succ]
      refine Segs.WL.val (some 10) (.int .i64 1) W10 rfl (by kernel_rfl) (by kernel_rfl) ?_
      simp only [Act.put, List.setIfInBounds_toArray, List.set_cons_zero, List.set_cons_succ]
      refine Segs.WL.nil ?_
      go_upto_region 6 with (fail)
      refine wp_region_lit (Segs.WL.out ?_)
      refine Segs.WL.val (some 25) (.bool true) W10 rfl (by kernel_rfl) (by kernel_rfl) ?_
      simp only [Act.put, List.setIfInBounds_toArray, List.set_cons_zero, List.set_cons_succ]
      refine Segs.WL.val (some 26) (.bool false) W10 rfl (by kernel_rfl) (by kernel_rfl) ?_
      simp only [Act.put, List.setIfInBounds_toArray, List.set_cons_zero, List.set_cons_succ]
      refine Segs.WL.val (some 27) (.bool false) W10 rfl (by kernel_rfl) (by kernel_rfl) ?_
      simp only [Act.put, List.setIfInBounds_toArray, List.set_cons_zero, List.set_cons_succ]
      refine Segs.WL.val (some 28) (.int .i64 1) W10 rfl (by kernel_rfl) (by kernel_rfl) ?_
      simp only [Act.put, List.setIfInBounds_toArray, List.set_cons_zero, List.set_cons_succ]
      refine Segs.WL.val (some 29) (.bool true) W10 rfl (by kernel_rfl) (by kernel_rfl) ?_
      simp only [Act.put, List.setIfInBounds_toArray, List.set_cons_zero, List.set_cons_succ]
      refine Segs.WL.val (some 30) (.bool true) W10 rfl (by kernel_rfl) (by kernel_rfl) ?_
      simp only [Act.put, List.setIfInBounds_toArray, List.set_cons_zero, List.set_cons_succ]
      refine Segs.WL.val (some 31) (.bool true) W10 rfl (by kernel_rfl) (by kernel_rfl) ?_
      simp only [Act.put, List.setIfInBounds_toArray, List.set_cons_zero, List.set_cons_succ]
      refine Segs.WL.not (some 32) rfl (by kernel_rfl) ?_
      simp only [Act.put, List.setIfInBounds_toArray, List.set_cons_zero, List.set_cons_succ]
      refine Segs.WL.not (some 33) rfl (by kernel_rfl) ?_
      simp only [Act.put, List.setIfInBounds_toArray, List.set_cons_zero, List.set_cons_succ]
      refine Segs.WL.not (some 34) rfl (by kernel_rfl) ?_
      simp only [Act.put, List.setIfInBounds_toArray, List.set_cons_zero, List.set_cons_succ]
      refine Segs.WL.val (some 35) (.bool true) W10 rfl (by kernel_rfl) (by kernel_rfl) ?_
      simp only [Act.put, List.setIfInBounds_toArray, List.set_cons_zero, List.set_cons_succ]
      refine Segs.WL.nil ?_
      go_wp2_with fail
      go_ret
      exact ⟨rfl, B12.out.1⟩
    · rw [hv] at put
      simp only [if_true] at put
      have bk := back a0 hv h16
      obtain ⟨_, bz, bi⟩ := back_read a0 hv h16
      have bp := item_pos bi
      have hct := fun k h => cut_none bi k h
      have hmo := fun h => more_none (m := a2) bi h
      obtain ⟨S, hS⟩ : ∃ s, s = bytesB a0 := ⟨_, rfl⟩
      rw [← hS] at put bk bz bp hct hmo
      have PUT := Lib.hid put
      by_cases hlen : 300 < a2.size
      · have HLEN := Lib.hid (show decide ((300 : Int) < (a2.size : Int)) = true by simp; omega)
        clear hl few hCS hZ0 hfw w0 h16 put hv w2 hp bk bz bp hct hmo bi hS hlen
        have B0 := Lib.hid (Bl.start w)
        have K1 := Lib.hid (by have := Blk.new (w) 25 CS; simpa using this : Blk ((w).alloc (.cells CS 25)) w.heap.size 25 CS)
        have B2 := Lib.hid (B0.out.alloc (.cells CS 25))
        go_enter Tryd.func6, Tryd.ntmps6
        go_upto_region 1 with (fail)
        generalize w.alloc (.cells CS 25) = W3 at K1 B2 ⊢
        refine wp_region_lit (Segs.WL.out ?_)
        refine Segs.WL.call (some 15) 8 #[] _ rfl (by kernel_rfl) (by kernel_rfl) (WK.out W3 (LA.out _ B2.out.1)) (fun e W4 hR => ?_)
        obtain ⟨rfl, hb⟩ := hR
        refine ⟨_, rfl, ?_⟩
        simp only [Act.put, List.setIfInBounds_toArray, List.set_cons_zero, List.set_cons_succ]
        have K5 := Lib.hid (K1.out.below hb)
        have B6 := Lib.hid (B2.out.call hb)
        clear hb
        refine Segs.WL.val (some 7) (.bool true) W4 rfl (by kernel_rfl) (by kernel_rfl) ?_
        simp only [Act.put, List.setIfInBounds_toArray, List.set_cons_zero, List.set_cons_succ]
        refine Segs.WL.nil ?_
        go_upto_region 2 with (fail)
        refine wp_region_lit (Segs.WL.out ?_)
        refine Segs.WL.val (some 16) (.bool true) W4 rfl (by kernel_rfl) (by kernel_rfl) ?_
        simp only [Act.put, List.setIfInBounds_toArray, List.set_cons_zero, List.set_cons_succ]
        refine Segs.WL.val (some 17) (.bool false) W4 rfl (by kernel_rfl) (by kernel_rfl) ?_
        simp only [Act.put, List.setIfInBounds_toArray, List.set_cons_zero, List.set_cons_succ]
        refine Segs.WL.nil ?_
        go_upto_region 4 with (fail)
        refine wp_region_lit (Segs.WL.out ?_)
        refine Segs.WL.val (some 18) (.agg CS) W4 rfl (by kernel_rfl) (Segs.run_row 25 (.tmp 3) rfl w.heap.size (by kernel_rfl) 25 CS _ K5.out Tryd.underlying25 rfl (info19 (NCS.out.size))) ?_
        simp only [Act.put, List.setIfInBounds_toArray, List.set_cons_zero, List.set_cons_succ]
        refine Segs.WL.call (some 19) 9 #[.agg CS] _ rfl (by kernel_rfl) (by kernel_rfl) (FEW.out W4) (fun e W7 hR => ?_)
        obtain ⟨rfl, hb⟩ := hR
        refine ⟨_, rfl, ?_⟩
        simp only [Act.put, List.setIfInBounds_toArray, List.set_cons_zero, List.set_cons_succ]
        have K8 := Lib.hid (K5.out.below hb)
        have B9 := Lib.hid (B6.out.call hb)
        clear hb
        refine Segs.WL.val (some 8) (.bool true) W7 rfl (by kernel_rfl) (by kernel_rfl) ?_
        simp only [Act.put, List.setIfInBounds_toArray, List.set_cons_zero, List.set_cons_succ]
        refine Segs.WL.nil ?_
        go_upto_region 5 with (fail)
        refine wp_region_lit (Segs.WL.out ?_)
        refine Segs.WL.val (some 21) (.agg CS) W7 rfl (by kernel_rfl) (Segs.run_row 25 (.tmp 3) rfl w.heap.size (by kernel_rfl) 25 CS _ K8.out Tryd.underlying25 rfl (info19 (NCS.out.size))) ?_
        simp only [Act.put, List.setIfInBounds_toArray, List.set_cons_zero, List.set_cons_succ]
        refine Segs.WL.call (some 22) 10 #[.agg CS] _ rfl (by kernel_rfl) (by kernel_rfl) (PUT.out W7 (LA.out _ B9.out.1).err) (fun e W10 hR => ?_)
        obtain ⟨rfl, hb⟩ := hR
        refine ⟨_, rfl, ?_⟩
        simp only [Act.put, List.setIfInBounds_toArray, List.set_cons_zero, List.set_cons_succ]
        have K11 := Lib.hid (K8.out.below hb)
        have B12 := Lib.hid (B9.out.call hb)
        clear hb
        refine Segs.WL.val (some 20) (.tuple #[.string S, .int .i64 0]) W10 rfl (by kernel_rfl) (by kernel_rfl) ?_
        simp only [Act.put, List.setIfInBounds_toArray, List.set_cons_zero, List.set_cons_succ]
        refine Segs.WL.val (some 23) (.string S) W10 rfl (by kernel_rfl) (by kernel_rfl) ?_
        simp only [Act.put, List.setIfInBounds_toArray, List.set_cons_zero, List.set_cons_succ]
        refine Segs.WL.val (some 24) (.int .i64 0) W10 rfl (by kernel_rfl) (by kernel_rfl) ?_
        simp only [Act.put, List.setIfInBounds_toArray, List.set_cons_zero, List.set_cons_succ]
        refine Segs.WL.val (some 9) (.string S) W10 rfl (by kernel_rfl) (by kernel_rfl) ?_
        simp only [Act.put, List.setIfInBounds_toArray, List.set_cons_zero, List.set_cons_succ]
        refine Segs.WL.val (some 10) (.int .i64 0) W10 rfl (by kernel_rfl) (by kernel_rfl) ?_
        simp only [Act.put, List.setIfInBounds_toArray, List.set_cons_zero, List.set_cons_succ]
        refine Segs.WL.nil ?_
        go_upto_region 6 with (fail)
        refine wp_region_lit (Segs.WL.out ?_)
        refine Segs.WL.val (some 25) (.bool true) W10 rfl (by kernel_rfl) (by kernel_rfl) ?_
        simp only [Act.put, List.setIfInBounds_toArray, List.set_cons_zero, List.set_cons_succ]
        refine Segs.WL.val (some 26) (.bool false) W10 rfl (by kernel_rfl) (by kernel_rfl) ?_
        simp only [Act.put, List.setIfInBounds_toArray, List.set_cons_zero, List.set_cons_succ]
        refine Segs.WL.val (some 27) (.bool false) W10 rfl (by kernel_rfl) (by kernel_rfl) ?_
        simp only [Act.put, List.setIfInBounds_toArray, List.set_cons_zero, List.set_cons_succ]
        refine Segs.WL.val (some 28) (.int .i64 0) W10 rfl (by kernel_rfl) (by kernel_rfl) ?_
        simp only [Act.put, List.setIfInBounds_toArray, List.set_cons_zero, List.set_cons_succ]
        refine Segs.WL.val (some 29) (.bool false) W10 rfl (by kernel_rfl) (by kernel_rfl) ?_
        simp only [Act.put, List.setIfInBounds_toArray, List.set_cons_zero, List.set_cons_succ]
        refine Segs.WL.val (some 30) (.bool false) W10 rfl (by kernel_rfl) (by kernel_rfl) ?_
        simp only [Act.put, List.setIfInBounds_toArray, List.set_cons_zero, List.set_cons_succ]
        refine Segs.WL.val (some 31) (.bool false) W10 rfl (by kernel_rfl) (by kernel_rfl) ?_
        simp only [Act.put, List.setIfInBounds_toArray, List.set_cons_zero, List.set_cons_succ]
        refine Segs.WL.val (some 32) (.string a2) W10 rfl (by kernel_rfl) (by kernel_rfl) ?_
        simp only [Act.put, List.setIfInBounds_toArray, List.set_cons_zero, List.set_cons_succ]
        refine Segs.WL.val (some 33) (.int .i64 ((a2.size : Int))) W10 rfl (by kernel_rfl) (by kernel_rfl) ?_
        simp only [Act.put, List.setIfInBounds_toArray, List.set_cons_zero, List.set_cons_succ]
        refine Segs.WL.val (some 34) (.bool (decide ((300 : Int) < (a2.size : Int)))) W10 rfl (by kernel_rfl) (by kernel_rfl) ?_
        simp only [Act.put, List.setIfInBounds_toArray, List.set_cons_zero, List.set_cons_succ]
        rw [HLEN.out]
        refine Segs.WL.val (some 35) (.bool true) W10 rfl (by kernel_rfl) (by kernel_rfl) ?_
        simp only [Act.put, List.setIfInBounds_toArray, List.set_cons_zero, List.set_cons_succ]
        refine Segs.WL.nil ?_
        go_wp2_with fail
        go_ret
        exact ⟨rfl, B12.out.1⟩
      · have HLEN := Lib.hid (show decide ((300 : Int) < (a2.size : Int)) = false by simp; omega)
        have q2 : p % S.size < S.size := Nat.mod_lt _ (by omega)
        have gc := fun W h => wk_geta (S.extract 0 (p % S.size)) (by simp; omega) W h
        rw [hct _ q2] at gc
        have GC := Lib.hid (fun W h => (hZ0 ▸ gc W h : Calls Tryd.prog 11 #[.string (S.extract 0 (p % S.size))] W fun e w' => e = .returned (.tuple #[.agg Z0, .int .i64 2]) ∧ Below W.heap.size W w'))
        have gm := fun W h => wk_geta (S ++ a2) (by rw [ByteArray.size_append]; omega) W h
        have H1 := Lib.hid (show decide ((1 : Int) ≤ (S.size : Int)) = true by simp; omega)
        have H7 := Lib.hid (show decide ((S.size : Int) ≤ (700 : Int)) = true by simp; omega)
        have hl3 : a2.size ≤ 300 := by omega
        by_cases ha : a2 = e0
        · have he : S ++ a2 = S := by rw [ha]; apply ByteArray.ext; simp [e0]
          rw [he, bk] at gm
          rw [← he] at gm
          obtain ⟨CM, hCM⟩ : ∃ z, z = ndC a0 := ⟨_, rfl⟩
          have NCM := Lib.hid (show Ndc CM by rw [hCM]; exact .of _)
          have GM := Lib.hid (fun W h => (hCM ▸ gm W h : Calls Tryd.prog 11 #[.string (S ++ a2)] W fun e w' => e = .returned (.tuple #[.agg CM, .int .i64 0]) ∧ Below W.heap.size W w'))
          have HA := Lib.hid (show decide (a2 = ⟨#[]⟩) = true from decide_eq_true ha)
          clear hl few hCS hZ0 hfw w0 h16 put hv w2 bk hct hmo bi hS hlen gc gm hCM ha he
          have B0 := Lib.hid (Bl.start w)
          have K1 := Lib.hid (by have := Blk.new (w) 25 CS; simpa using this : Blk ((w).alloc (.cells CS 25)) w.heap.size 25 CS)
          have B2 := Lib.hid (B0.out.alloc (.cells CS 25))
          go_enter Tryd.func6, Tryd.ntmps6
          go_upto_region 1 with (fail)
          generalize w.alloc (.cells CS 25) = W3 at K1 B2 ⊢
          refine wp_region_lit (Segs.WL.out ?_)
          refine Segs.WL.call (some 15) 8 #[] _ rfl (by kernel_rfl) (by kernel_rfl) (WK.out W3 (LA.out _ B2.out.1)) (fun e W4 hR => ?_)
          obtain ⟨rfl, hb⟩ := hR
          refine ⟨_, rfl, ?_⟩
          simp only [Act.put, List.setIfInBounds_toArray, List.set_cons_zero, List.set_cons_succ]
          have K5 := Lib.hid (K1.out.below hb)
          have B6 := Lib.hid (B2.out.call hb)
          clear hb
          refine Segs.WL.val (some 7) (.bool true) W4 rfl (by kernel_rfl) (by kernel_rfl) ?_
          simp only [Act.put, List.setIfInBounds_toArray, List.set_cons_zero, List.set_cons_succ]
          refine Segs.WL.nil ?_
          go_upto_region 2 with (fail)
          refine wp_region_lit (Segs.WL.out ?_)
          refine Segs.WL.val (some 16) (.bool true) W4 rfl (by kernel_rfl) (by kernel_rfl) ?_
          simp only [Act.put, List.setIfInBounds_toArray, List.set_cons_zero, List.set_cons_succ]
          refine Segs.WL.val (some 17) (.bool false) W4 rfl (by kernel_rfl) (by kernel_rfl) ?_
          simp only [Act.put, List.setIfInBounds_toArray, List.set_cons_zero, List.set_cons_succ]
          refine Segs.WL.nil ?_
          go_upto_region 4 with (fail)
          refine wp_region_lit (Segs.WL.out ?_)
          refine Segs.WL.val (some 18) (.agg CS) W4 rfl (by kernel_rfl) (Segs.run_row 25 (.tmp 3) rfl w.heap.size (by kernel_rfl) 25 CS _ K5.out Tryd.underlying25 rfl (info19 (NCS.out.size))) ?_
          simp only [Act.put, List.setIfInBounds_toArray, List.set_cons_zero, List.set_cons_succ]
          refine Segs.WL.call (some 19) 9 #[.agg CS] _ rfl (by kernel_rfl) (by kernel_rfl) (FEW.out W4) (fun e W7 hR => ?_)
          obtain ⟨rfl, hb⟩ := hR
          refine ⟨_, rfl, ?_⟩
          simp only [Act.put, List.setIfInBounds_toArray, List.set_cons_zero, List.set_cons_succ]
          have K8 := Lib.hid (K5.out.below hb)
          have B9 := Lib.hid (B6.out.call hb)
          clear hb
          refine Segs.WL.val (some 8) (.bool true) W7 rfl (by kernel_rfl) (by kernel_rfl) ?_
          simp only [Act.put, List.setIfInBounds_toArray, List.set_cons_zero, List.set_cons_succ]
          refine Segs.WL.nil ?_
          go_upto_region 5 with (fail)
          refine wp_region_lit (Segs.WL.out ?_)
          refine Segs.WL.val (some 21) (.agg CS) W7 rfl (by kernel_rfl) (Segs.run_row 25 (.tmp 3) rfl w.heap.size (by kernel_rfl) 25 CS _ K8.out Tryd.underlying25 rfl (info19 (NCS.out.size))) ?_
          simp only [Act.put, List.setIfInBounds_toArray, List.set_cons_zero, List.set_cons_succ]
          refine Segs.WL.call (some 22) 10 #[.agg CS] _ rfl (by kernel_rfl) (by kernel_rfl) (PUT.out W7 (LA.out _ B9.out.1).err) (fun e W10 hR => ?_)
          obtain ⟨rfl, hb⟩ := hR
          refine ⟨_, rfl, ?_⟩
          simp only [Act.put, List.setIfInBounds_toArray, List.set_cons_zero, List.set_cons_succ]
          have K11 := Lib.hid (K8.out.below hb)
          have B12 := Lib.hid (B9.out.call hb)
          clear hb
          refine Segs.WL.val (some 20) (.tuple #[.string S, .int .i64 0]) W10 rfl (by kernel_rfl) (by kernel_rfl) ?_
          simp only [Act.put, List.setIfInBounds_toArray, List.set_cons_zero, List.set_cons_succ]
          refine Segs.WL.val (some 23) (.string S) W10 rfl (by kernel_rfl) (by kernel_rfl) ?_
          simp only [Act.put, List.setIfInBounds_toArray, List.set_cons_zero, List.set_cons_succ]
          refine Segs.WL.val (some 24) (.int .i64 0) W10 rfl (by kernel_rfl) (by kernel_rfl) ?_
          simp only [Act.put, List.setIfInBounds_toArray, List.set_cons_zero, List.set_cons_succ]
          refine Segs.WL.val (some 9) (.string S) W10 rfl (by kernel_rfl) (by kernel_rfl) ?_
          simp only [Act.put, List.setIfInBounds_toArray, List.set_cons_zero, List.set_cons_succ]
          refine Segs.WL.val (some 10) (.int .i64 0) W10 rfl (by kernel_rfl) (by kernel_rfl) ?_
          simp only [Act.put, List.setIfInBounds_toArray, List.set_cons_zero, List.set_cons_succ]
          refine Segs.WL.nil ?_
          go_upto_region 6 with (fail)
          refine wp_region_lit (Segs.WL.out ?_)
          refine Segs.WL.val (some 25) (.bool true) W10 rfl (by kernel_rfl) (by kernel_rfl) ?_
          simp only [Act.put, List.setIfInBounds_toArray, List.set_cons_zero, List.set_cons_succ]
          refine Segs.WL.val (some 26) (.bool false) W10 rfl (by kernel_rfl) (by kernel_rfl) ?_
          simp only [Act.put, List.setIfInBounds_toArray, List.set_cons_zero, List.set_cons_succ]
          refine Segs.WL.val (some 27) (.bool false) W10 rfl (by kernel_rfl) (by kernel_rfl) ?_
          simp only [Act.put, List.setIfInBounds_toArray, List.set_cons_zero, List.set_cons_succ]
          refine Segs.WL.val (some 28) (.int .i64 0) W10 rfl (by kernel_rfl) (by kernel_rfl) ?_
          simp only [Act.put, List.setIfInBounds_toArray, List.set_cons_zero, List.set_cons_succ]
          refine Segs.WL.val (some 29) (.bool false) W10 rfl (by kernel_rfl) (by kernel_rfl) ?_
          simp only [Act.put, List.setIfInBounds_toArray, List.set_cons_zero, List.set_cons_succ]
          refine Segs.WL.val (some 30) (.bool false) W10 rfl (by kernel_rfl) (by kernel_rfl) ?_
          simp only [Act.put, List.setIfInBounds_toArray, List.set_cons_zero, List.set_cons_succ]
          refine Segs.WL.val (some 31) (.bool false) W10 rfl (by kernel_rfl) (by kernel_rfl) ?_
          simp only [Act.put, List.setIfInBounds_toArray, List.set_cons_zero, List.set_cons_succ]
          refine Segs.WL.val (some 32) (.string a2) W10 rfl (by kernel_rfl) (by kernel_rfl) ?_
          simp only [Act.put, List.setIfInBounds_toArray, List.set_cons_zero, List.set_cons_succ]
          refine Segs.WL.val (some 33) (.int .i64 ((a2.size : Int))) W10 rfl (by kernel_rfl) (by kernel_rfl) ?_
          simp only [Act.put, List.setIfInBounds_toArray, List.set_cons_zero, List.set_cons_succ]
          refine Segs.WL.val (some 34) (.bool (decide ((300 : Int) < (a2.size : Int)))) W10 rfl (by kernel_rfl) (by kernel_rfl) ?_
          simp only [Act.put, List.setIfInBounds_toArray, List.set_cons_zero, List.set_cons_succ]
          rw [HLEN.out]
          refine Segs.WL.val (some 35) (.bool false) W10 rfl (by kernel_rfl) (by kernel_rfl) ?_
          simp only [Act.put, List.setIfInBounds_toArray, List.set_cons_zero, List.set_cons_succ]
          refine Segs.WL.nil ?_
          go_upto_region 8 with (fail)
          go_upto_region 9 with (first
            | (go_at_call 11; refine (GC.out W10 (LA.out _ B12.out.1).err).mono ?_; rintro e vx ⟨rfl, hb⟩; have KAx := Lib.hid (K11.out.below hb); have BAx := Lib.hid (B12.out.call hb); have MAx := Lib.hid (Blk.new vx 25 Z0); clear hb)
            | (refine wpList_alloc_nd rfl (some 11) rfl rfl Z0 HZ.out vx.heap.size rfl ?_)
            | (refine wpList_store_nd rfl (.tmp 11) (.tmp 46) rfl rfl vx.heap.size Z0 rfl rfl 25 Z0 MAx.out NZ.out NZ.out ?_))
          have KBx := Lib.hid ((KAx.out.alloc (.cells Z0 25)).rowOther (g' := vx.heap.size) (cs := Z0) (by have := KAx.out.lt; omega))
          have BBx := Lib.hid (Bl.setRow (BAx.out.alloc (.cells Z0 25)) (g := vx.heap.size) BAx.out.2 Z0)
          generalize (vx.alloc (.cells Z0 25)).setRow vx.heap.size Z0 = W13 at KBx BBx ⊢
          clear q2 hp
          have hfit : S.size + a2.size ≤ maxLen := by unfold maxLen; omega
          go_upto_region 10 with (first
            | (go_at_call 11; refine (GM.out W13 (LA.out _ BBx.out.1).err).mono ?_; rintro e vy ⟨rfl, hb⟩; have KAy := Lib.hid (KBx.out.below hb); have BAy := Lib.hid (BBx.out.call hb); have MAy := Lib.hid (Blk.new vy 25 Z0); clear hb)
            | (refine wpList_alloc_nd rfl (some 13) rfl rfl Z0 HZ.out vy.heap.size rfl ?_)
            | (refine wpList_store_nd rfl (.tmp 13) (.tmp 53) rfl rfl vy.heap.size CM rfl rfl 25 Z0 MAy.out NCM.out NZ.out ?_))
          have KBy := Lib.hid ((KAy.out.alloc (.cells Z0 25)).rowOther (g' := vy.heap.size) (cs := CM) (by have := KAy.out.lt; omega))
          have BBy := Lib.hid (Bl.setRow (BAy.out.alloc (.cells Z0 25)) (g := vy.heap.size) BAy.out.2 CM)
          generalize (vy.alloc (.cells Z0 25)).setRow vy.heap.size CM = W14 at KBy BBy ⊢
          clear hfit bz bp hl3
          refine wp_region_lit (Segs.WL.out ?_)
          refine Segs.WL.val (some 55) (.bool true) W14 rfl (by kernel_rfl) (by kernel_rfl) ?_
          simp only [Act.put, List.setIfInBounds_toArray, List.set_cons_zero, List.set_cons_succ]
          refine Segs.WL.val (some 56) (.bool true) W14 rfl (by kernel_rfl) (by kernel_rfl) ?_
          simp only [Act.put, List.setIfInBounds_toArray, List.set_cons_zero, List.set_cons_succ]
          refine Segs.WL.val (some 57) (.string S) W14 rfl (by kernel_rfl) (by kernel_rfl) ?_
          simp only [Act.put, List.setIfInBounds_toArray, List.set_cons_zero, List.set_cons_succ]
          refine Segs.WL.val (some 58) (.int .i64 ((S.size : Int))) W14 rfl (by kernel_rfl) (by kernel_rfl) ?_
          simp only [Act.put, List.setIfInBounds_toArray, List.set_cons_zero, List.set_cons_succ]
          refine Segs.WL.val (some 59) (.bool (decide ((1 : Int) ≤ (S.size : Int)))) W14 rfl (by kernel_rfl) (by kernel_rfl) ?_
          simp only [Act.put, List.setIfInBounds_toArray, List.set_cons_zero, List.set_cons_succ]
          rw [H1.out]
          refine Segs.WL.val (some 60) (.bool true) W14 rfl (by kernel_rfl) (by kernel_rfl) ?_
          simp only [Act.put, List.setIfInBounds_toArray, List.set_cons_zero, List.set_cons_succ]
          refine Segs.WL.val (some 61) (.bool true) W14 rfl (by kernel_rfl) (by kernel_rfl) ?_
          simp only [Act.put, List.setIfInBounds_toArray, List.set_cons_zero, List.set_cons_succ]
          refine Segs.WL.val (some 62) (.string S) W14 rfl (by kernel_rfl) (by kernel_rfl) ?_
          simp only [Act.put, List.setIfInBounds_toArray, List.set_cons_zero, List.set_cons_succ]
          refine Segs.WL.val (some 63) (.int .i64 ((S.size : Int))) W14 rfl (by kernel_rfl) (by kernel_rfl) ?_
          simp only [Act.put, List.setIfInBounds_toArray, List.set_cons_zero, List.set_cons_succ]
          refine Segs.WL.val (some 64) (.bool (decide ((S.size : Int) ≤ (700 : Int)))) W14 rfl (by kernel_rfl) (by kernel_rfl) ?_
          simp only [Act.put, List.setIfInBounds_toArray, List.set_cons_zero, List.set_cons_succ]
          rw [H7.out]
          refine Segs.WL.val (some 65) (.bool true) W14 rfl (by kernel_rfl) (by kernel_rfl) ?_
          simp only [Act.put, List.setIfInBounds_toArray, List.set_cons_zero, List.set_cons_succ]
          refine Segs.WL.val (some 66) (.bool true) W14 rfl (by kernel_rfl) (by kernel_rfl) ?_
          simp only [Act.put, List.setIfInBounds_toArray, List.set_cons_zero, List.set_cons_succ]
          refine Segs.WL.val (some 67) (.int .i64 2) W14 rfl (by kernel_rfl) (by kernel_rfl) ?_
          simp only [Act.put, List.setIfInBounds_toArray, List.set_cons_zero, List.set_cons_succ]
          refine Segs.WL.val (some 68) (.bool true) W14 rfl (by kernel_rfl) (by kernel_rfl) ?_
          simp only [Act.put, List.setIfInBounds_toArray, List.set_cons_zero, List.set_cons_succ]
          refine Segs.WL.val (some 69) (.bool true) W14 rfl (by kernel_rfl) (by kernel_rfl) ?_
          simp only [Act.put, List.setIfInBounds_toArray, List.set_cons_zero, List.set_cons_succ]
          refine Segs.WL.val (some 70) (.bool true) W14 rfl (by kernel_rfl) (by kernel_rfl) ?_
          simp only [Act.put, List.setIfInBounds_toArray, List.set_cons_zero, List.set_cons_succ]
          refine Segs.WL.val (some 71) (.string a2) W14 rfl (by kernel_rfl) (by kernel_rfl) ?_
          simp only [Act.put, List.setIfInBounds_toArray, List.set_cons_zero, List.set_cons_succ]
          refine Segs.WL.val (some 72) (.bool true) W14 rfl (by kernel_rfl) (run_eqs rfl a2 ⟨#[]⟩ (by kernel_rfl) (by kernel_rfl) true (HA.out)) ?_
          simp only [Act.put, List.setIfInBounds_toArray, List.set_cons_zero, List.set_cons_succ]
          refine Segs.WL.val (some 73) (.bool true) W14 rfl (by kernel_rfl) (by kernel_rfl) ?_
          simp only [Act.put, List.setIfInBounds_toArray, List.set_cons_zero, List.set_cons_succ]
          refine Segs.WL.not (some 74) rfl (by kernel_rfl) ?_
          simp only [Act.put, List.setIfInBounds_toArray, List.set_cons_zero, List.set_cons_succ]
          refine Segs.WL.not (some 75) rfl (by kernel_rfl) ?_
          simp only [Act.put, List.setIfInBounds_toArray, List.set_cons_zero, List.set_cons_succ]
          refine Segs.WL.val (some 76) (.bool true) W14 rfl (by kernel_rfl) (by kernel_rfl) ?_
          simp only [Act.put, List.setIfInBounds_toArray, List.set_cons_zero, List.set_cons_succ]
          refine Segs.WL.val (some 77) (.bool true) W14 rfl (by kernel_rfl) (by kernel_rfl) ?_
          simp only [Act.put, List.setIfInBounds_toArray, List.set_cons_zero, List.set_cons_succ]
          refine Segs.WL.val (some 6) (.bool true) W14 rfl (by kernel_rfl) (by kernel_rfl) ?_
          simp only [Act.put, List.setIfInBounds_toArray, List.set_cons_zero, List.set_cons_succ]
          refine Segs.WL.nil ?_
          go_wp2_with fail
          go_ret
          exact ⟨rfl, BBy.out.1⟩
        · rw [hmo ha] at gm
          obtain ⟨CM, hCM⟩ : ∃ z, z = ndC zeroN := ⟨_, rfl⟩
          have NCM := Lib.hid (show Ndc CM by rw [hCM]; exact .of _)
          have GM := Lib.hid (fun W h => (hCM ▸ gm W h : Calls Tryd.prog 11 #[.string (S ++ a2)] W fun e w' => e = .returned (.tuple #[.agg CM, .int .i64 2]) ∧ Below W.heap.size W w'))
          have HA := Lib.hid (show decide (a2 = ⟨#[]⟩) = false from decide_eq_false ha)
          clear hl few hCS hZ0 hfw w0 h16 put hv w2 bk hct hmo bi hS hlen gc gm hCM ha
          have B0 := Lib.hid (Bl.start w)
          have K1 := Lib.hid (by have := Blk.new (w) 25 CS; simpa using this : Blk ((w).alloc (.cells CS 25)) w.heap.size 25 CS)
          have B2 := Lib.hid (B0.out.alloc (.cells CS 25))
          go_enter Tryd.func6, Tryd.ntmps6
          go_upto_region 1 with (fail)
          generalize w.alloc (.cells CS 25) = W3 at K1 B2 ⊢
          refine wp_region_lit (Segs.WL.out ?_)
          refine Segs.WL.call (some 15) 8 #[] _ rfl (by kernel_rfl) (by kernel_rfl) (WK.out W3 (LA.out _ B2.out.1)) (fun e W4 hR => ?_)
          obtain ⟨rfl, hb⟩ := hR
          refine ⟨_, rfl, ?_⟩
          simp only [Act.put, List.setIfInBounds_toArray, List.set_cons_zero, List.set_cons_succ]
          have K5 := Lib.hid (K1.out.below hb)
          have B6 := Lib.hid (B2.out.call hb)
          clear hb
          refine Segs.WL.val (some 7) (.bool true) W4 rfl (by kernel_rfl) (by kernel_rfl) ?_
          simp only [Act.put, List.setIfInBounds_toArray, List.set_cons_zero, List.set_cons_succ]
          refine Segs.WL.nil ?_
          go_upto_region 2 with (fail)
          refine wp_region_lit (Segs.WL.out ?_)
          refine Segs.WL.val (some 16) (.bool true) W4 rfl (by kernel_rfl) (by kernel_rfl) ?_
          simp only [Act.put, List.setIfInBounds_toArray, List.set_cons_zero, List.set_cons_succ]
          refine Segs.WL.val (some 17) (.bool false) W4 rfl (by kernel_rfl) (by kernel_rfl) ?_
          simp only [Act.put, List.setIfInBounds_toArray, List.set_cons_zero, List.set_cons_succ]
          refine Segs.WL.nil ?_
          go_upto_region 4 with (fail)
          refine wp_region_lit (Segs.WL.out ?_)
          refine Segs.WL.val (some 18) (.agg CS) W4 rfl (by kernel_rfl) (Segs.run_row 25 (.tmp 3) rfl w.heap.size (by kernel_rfl) 25 CS _ K5.out Tryd.underlying25 rfl (info19 (NCS.out.size))) ?_
          simp only [Act.put, List.setIfInBounds_toArray, List.set_cons_zero, List.set_cons_succ]
          refine Segs.WL.call (some 19) 9 #[.agg CS] _ rfl (by kernel_rfl) (by kernel_rfl) (FEW.out W4) (fun e W7 hR => ?_)
          obtain ⟨rfl, hb⟩ := hR
          refine ⟨_, rfl, ?_⟩
          simp only [Act.put, List.setIfInBounds_toArray, List.set_cons_zero, List.set_cons_succ]
          have K8 := Lib.hid (K5.out.below hb)
          have B9 := Lib.hid (B6.out.call hb)
          clear hb
          refine Segs.WL.val (some 8) (.bool true) W7 rfl (by kernel_rfl) (by kernel_rfl) ?_
          simp only [Act.put, List.setIfInBounds_toArray, List.set_cons_zero, List.set_cons_succ]
          refine Segs.WL.nil ?_
          go_upto_region 5 with (fail)
          refine wp_region_lit (Segs.WL.out ?_)
          refine Segs.WL.val (some 21) (.agg CS) W7 rfl (by kernel_rfl) (Segs.run_row 25 (.tmp 3) rfl w.heap.size (by kernel_rfl) 25 CS _ K8.out Tryd.underlying25 rfl (info19 (NCS.out.size))) ?_
          simp only [Act.put, List.setIfInBounds_toArray, List.set_cons_zero, List.set_cons_succ]
          refine Segs.WL.call (some 22) 10 #[.agg CS] _ rfl (by kernel_rfl) (by kernel_rfl) (PUT.out W7 (LA.out _ B9.out.1).err) (fun e W10 hR => ?_)
          obtain ⟨rfl, hb⟩ := hR
          refine ⟨_, rfl, ?_⟩
          simp only [Act.put, List.setIfInBounds_toArray, List.set_cons_zero, List.set_cons_succ]
          have K11 := Lib.hid (K8.out.below hb)
          have B12 := Lib.hid (B9.out.call hb)
          clear hb
          refine Segs.WL.val (some 20) (.tuple #[.string S, .int .i64 0]) W10 rfl (by kernel_rfl) (by kernel_rfl) ?_
          simp only [Act.put, List.setIfInBounds_toArray, List.set_cons_zero, List.set_cons_succ]
          refine Segs.WL.val (some 23) (.string S) W10 rfl (by kernel_rfl) (by kernel_rfl) ?_
          simp only [Act.put, List.setIfInBounds_toArray, List.set_cons_zero, List.set_cons_succ]
          refine Segs.WL.val (some 24) (.int .i64 0) W10 rfl (by kernel_rfl) (by kernel_rfl) ?_
          simp only [Act.put, List.setIfInBounds_toArray, List.set_cons_zero, List.set_cons_succ]
          refine Segs.WL.val (some 9) (.string S) W10 rfl (by kernel_rfl) (by kernel_rfl) ?_
          simp only [Act.put, List.setIfInBounds_toArray, List.set_cons_zero, List.set_cons_succ]
          refine Segs.WL.val (some 10) (.int .i64 0) W10 rfl (by kernel_rfl) (by kernel_rfl) ?_
          simp only [Act.put, List.setIfInBounds_toArray, List.set_cons_zero, List.set_cons_succ]
          refine Segs.WL.nil ?_
          go_upto_region 6 with (fail)
          refine wp_region_lit (Segs.WL.out ?_)
          refine Segs.WL.val (some 25) (.bool true) W10 rfl (by kernel_rfl) (by kernel_rfl) ?_
          simp only [Act.put, List.setIfInBounds_toArray, List.set_cons_zero, List.set_cons_succ]
          refine Segs.WL.val (some 26) (.bool false) W10 rfl (by kernel_rfl) (by kernel_rfl) ?_
          simp only [Act.put, List.setIfInBounds_toArray, List.set_cons_zero, List.set_cons_succ]
          refine Segs.WL.val (some 27) (.bool false) W10 rfl (by kernel_rfl) (by kernel_rfl) ?_
          simp only [Act.put, List.setIfInBounds_toArray, List.set_cons_zero, List.set_cons_succ]
          refine Segs.WL.val (some 28) (.int .i64 0) W10 rfl (by kernel_rfl) (by kernel_rfl) ?_
          simp only [Act.put, List.setIfInBounds_toArray, List.set_cons_zero, List.set_cons_succ]
          refine Segs.WL.val (some 29) (.bool false) W10 rfl (by kernel_rfl) (by kernel_rfl) ?_
          simp only [Act.put, List.setIfInBounds_toArray, List.set_cons_zero, List.set_cons_succ]
          refine Segs.WL.val (some 30) (.bool false) W10 rfl (by kernel_rfl) (by kernel_rfl) ?_
          simp only [Act.put, List.setIfInBounds_toArray, List.set_cons_zero, List.set_cons_succ]
          refine Segs.WL.val (some 31) (.bool false) W10 rfl (by kernel_rfl) (by kernel_rfl) ?_
          simp only [Act.put, List.setIfInBounds_toArray, List.set_cons_zero, List.set_cons_succ]
          refine Segs.WL.val (some 32) (.string a2) W10 rfl (by kernel_rfl) (by kernel_rfl) ?_
          simp only [Act.put, List.setIfInBounds_toArray, List.set_cons_zero, List.set_cons_succ]
          refine Segs.WL.val (some 33) (.int .i64 ((a2.size : Int))) W10 rfl (by kernel_rfl) (by kernel_rfl) ?_
          simp only [Act.put, List.setIfInBounds_toArray, List.set_cons_zero, List.set_cons_succ]
          refine Segs.WL.val (some 34) (.bool (decide ((300 : Int) < (a2.size : Int)))) W10 rfl (by kernel_rfl) (by kernel_rfl) ?_
          simp only [Act.put, List.setIfInBounds_toArray, List.set_cons_zero, List.set_cons_succ]
          rw [HLEN.out]
          refine Segs.WL.val (some 35) (.bool false) W10 rfl (by kernel_rfl) (by kernel_rfl) ?_
          simp only [Act.put, List.setIfInBounds_toArray, List.set_cons_zero, List.set_cons_succ]
          refine Segs.WL.nil ?_
          go_upto_region 8 with (fail)
          go_upto_region 9 with (first
            | (go_at_call 11; refine (GC.out W10 (LA.out _ B12.out.1).err).mono ?_; rintro e vx ⟨rfl, hb⟩; have KAx := Lib.hid (K11.out.below hb); have BAx := Lib.hid (B12.out.call hb); have MAx := Lib.hid (Blk.new vx 25 Z0); clear hb)
            | (refine wpList_alloc_nd rfl (some 11) rfl rfl Z0 HZ.out vx.heap.size rfl ?_)
            | (refine wpList_store_nd rfl (.tmp 11) (.tmp 46) rfl rfl vx.heap.size Z0 rfl rfl 25 Z0 MAx.out NZ.out NZ.out ?_))
          have KBx := Lib.hid ((KAx.out.alloc (.cells Z0 25)).rowOther (g' := vx.heap.size) (cs := Z0) (by have := KAx.out.lt; omega))
          have BBx := Lib.hid (Bl.setRow (BAx.out.alloc (.cells Z0 25)) (g := vx.heap.size) BAx.out.2 Z0)
          generalize (vx.alloc (.cells Z0 25)).setRow vx.heap.size Z0 = W13 at KBx BBx ⊢
          clear q2 hp
          have hfit : S.size + a2.size ≤ maxLen := by unfold maxLen; omega
          go_upto_region 10 with (first
            | (go_at_call 11; refine (GM.out W13 (LA.out _ BBx.out.1).err).mono ?_; rintro e vy ⟨rfl, hb⟩; have KAy := Lib.hid (KBx.out.below hb); have BAy := Lib.hid (BBx.out.call hb); have MAy := Lib.hid (Blk.new vy 25 Z0); clear hb)
            | (refine wpList_alloc_nd rfl (some 13) rfl rfl Z0 HZ.out vy.heap.size rfl ?_)
            | (refine wpList_store_nd rfl (.tmp 13) (.tmp 53) rfl rfl vy.heap.size CM rfl rfl 25 Z0 MAy.out NCM.out NZ.out ?_))
          have KBy := Lib.hid ((KAy.out.alloc (.cells Z0 25)).rowOther (g' := vy.heap.size) (cs := CM) (by have := KAy.out.lt; omega))
          have BBy := Lib.hid (Bl.setRow (BAy.out.alloc (.cells Z0 25)) (g := vy.heap.size) BAy.out.2 CM)
          generalize (vy.alloc (.cells Z0 25)).setRow vy.heap.size CM = W14 at KBy BBy ⊢
          clear hfit bz bp hl3
          refine wp_region_lit (Segs.WL.out ?_)
          refine Segs.WL.val (some 55) (.bool true) W14 rfl (by kernel_rfl) (by kernel_rfl) ?_
          simp only [Act.put, List.setIfInBounds_toArray, List.set_cons_zero, List.set_cons_succ]
          refine Segs.WL.val (some 56) (.bool true) W14 rfl (by kernel_rfl) (by kernel_rfl) ?_
          simp only [Act.put, List.setIfInBounds_toArray, List.set_cons_zero, List.set_cons_succ]
          refine Segs.WL.val (some 57) (.string S) W14 rfl (by kernel_rfl) (by kernel_rfl) ?_
          simp only [Act.put, List.setIfInBounds_toArray, List.set_cons_zero, List.set_cons_succ]
          refine Segs.WL.val (some 58) (.int .i64 ((S.size : Int))) W14 rfl (by kernel_rfl) (by kernel_rfl) ?_
          simp only [Act.put, List.setIfInBounds_toArray, List.set_cons_zero, List.set_cons_succ]
          refine Segs.WL.val (some 59) (.bool (decide ((1 : Int) ≤ (S.size : Int)))) W14 rfl (by kernel_rfl) (by kernel_rfl) ?_
          simp only [Act.put, List.setIfInBounds_toArray, List.set_cons_zero, List.set_cons_succ]
          rw [H1.out]
          refine Segs.WL.val (some 60) (.bool true) W14 rfl (by kernel_rfl) (by kernel_rfl) ?_
          simp only [Act.put, List.setIfInBounds_toArray, List.set_cons_zero, List.set_cons_succ]
          refine Segs.WL.val (some 61) (.bool true) W14 rfl (by kernel_rfl) (by kernel_rfl) ?_
          simp only [Act.put, List.setIfInBounds_toArray, List.set_cons_zero, List.set_cons_succ]
          refine Segs.WL.val (some 62) (.string S) W14 rfl (by kernel_rfl) (by kernel_rfl) ?_
          simp only [Act.put, List.setIfInBounds_toArray, List.set_cons_zero, List.set_cons_succ]
          refine Segs.WL.val (some 63) (.int .i64 ((S.size : Int))) W14 rfl (by kernel_rfl) (by kernel_rfl) ?_
          simp only [Act.put, List.setIfInBounds_toArray, List.set_cons_zero, List.set_cons_succ]
          refine Segs.WL.val (some 64) (.bool (decide ((S.size : Int) ≤ (700 : Int)))) W14 rfl (by kernel_rfl) (by kernel_rfl) ?_
          simp only [Act.put, List.setIfInBounds_toArray, List.set_cons_zero, List.set_cons_succ]
          rw [H7.out]
          refine Segs.WL.val (some 65) (.bool true) W14 rfl (by kernel_rfl) (by kernel_rfl) ?_
          simp only [Act.put, List.setIfInBounds_toArray, List.set_cons_zero, List.set_cons_succ]
          refine Segs.WL.val (some 66) (.bool true) W14 rfl (by kernel_rfl) (by kernel_rfl) ?_
          simp only [Act.put, List.setIfInBounds_toArray, List.set_cons_zero, List.set_cons_succ]
          refine Segs.WL.val (some 67) (.int .i64 2) W14 rfl (by kernel_rfl) (by kernel_rfl) ?_
          simp only [Act.put, List.setIfInBounds_toArray, List.set_cons_zero, List.set_cons_succ]
          refine Segs.WL.val (some 68) (.bool true) W14 rfl (by kernel_rfl) (by kernel_rfl) ?_
          simp only [Act.put, List.setIfInBounds_toArray, List.set_cons_zero, List.set_cons_succ]
          refine Segs.WL.val (some 69) (.bool true) W14 rfl (by kernel_rfl) (by kernel_rfl) ?_
          simp only [Act.put, List.setIfInBounds_toArray, List.set_cons_zero, List.set_cons_succ]
          refine Segs.WL.val (some 70) (.bool true) W14 rfl (by kernel_rfl) (by kernel_rfl) ?_
          simp only [Act.put, List.setIfInBounds_toArray, List.set_cons_zero, List.set_cons_succ]
          refine Segs.WL.val (some 71) (.string a2) W14 rfl (by kernel_rfl) (by kernel_rfl) ?_
          simp only [Act.put, List.setIfInBounds_toArray, List.set_cons_zero, List.set_cons_succ]
          refine Segs.WL.val (some 72) (.bool false) W14 rfl (by kernel_rfl) (run_eqs rfl a2 ⟨#[]⟩ (by kernel_rfl) (by kernel_rfl) false (HA.out)) ?_
          simp only [Act.put, List.setIfInBounds_toArray, List.set_cons_zero, List.set_cons_succ]
          refine Segs.WL.val (some 73) (.bool false) W14 rfl (by kernel_rfl) (by kernel_rfl) ?_
          simp only [Act.put, List.setIfInBounds_toArray, List.set_cons_zero, List.set_cons_succ]
          refine Segs.WL.val (some 74) (.int .i64 2) W14 rfl (by kernel_rfl) (by kernel_rfl) ?_
          simp only [Act.put, List.setIfInBounds_toArray, List.set_cons_zero, List.set_cons_succ]
          refine Segs.WL.val (some 75) (.bool true) W14 rfl (by kernel_rfl) (by kernel_rfl) ?_
          simp only [Act.put, List.setIfInBounds_toArray, List.set_cons_zero, List.set_cons_succ]
          refine Segs.WL.val (some 76) (.bool true) W14 rfl (by kernel_rfl) (by kernel_rfl) ?_
          simp only [Act.put, List.setIfInBounds_toArray, List.set_cons_zero, List.set_cons_succ]
          refine Segs.WL.val (some 77) (.bool true) W14 rfl (by kernel_rfl) (by kernel_rfl) ?_
          simp only [Act.put, List.setIfInBounds_toArray, List.set_cons_zero, List.set_cons_succ]
          refine Segs.WL.val (some 6) (.bool true) W14 rfl (by kernel_rfl) (by kernel_rfl) ?_
          simp only [Act.put, List.setIfInBounds_toArray, List.set_cons_zero, List.set_cons_succ]
          refine Segs.WL.nil ?_
          go_wp2_with fail
          go_ret
          exact ⟨rfl, BBy.out.1⟩
set_option maxRecDepth 100000 in
theorem lifted (os : Os) (started : os.Started) (H : Type) (enc : TypeId × Value → H) :
    ReturnsInHanded {} Tryd.checked os 6 .any (fun w args => (Rows.nodeCutsSpec.pre enc Tryd.prog Tryd.f6 [] false w args ∧ laidMetH Tryd.prog Rows.nodeCutsRow.laid w) ∧ sizedMet enc Tryd.prog Tryd.f6 (OpenSpec.ofChange Rows.nodeCutsSpec) false w args)
      (Rows.nodeCutsSpec.post enc Tryd.prog Tryd.f6 false true false false) := by
  refine returnsInHanded_of_change_and (C := Tryd.checked) (X := fun w _ => laidMetH Tryd.prog Rows.nodeCutsRow.laid w) (fun _ _ _ hh h => h.of_heap hh) own started (by kernel_rfl) Tryd.func6
    (ChangeSpec.witness_shaped (enc := enc) (C := Tryd.checked) (os := os) (X := fun w _ => laidMetH Tryd.prog Rows.nodeCutsRow.laid w) false (World.doorLaid Tryd.prog 400 os) #[.agg #[.int .i64 0, .string ByteArray.empty, .string ByteArray.empty, .string ByteArray.empty, .string ByteArray.empty, .string ByteArray.empty, .string ByteArray.empty, .string ByteArray.empty, .string ByteArray.empty, .string ByteArray.empty, .string ByteArray.empty, .string ByteArray.empty, .string ByteArray.empty, .string ByteArray.empty, .string ByteArray.empty, .string ByteArray.empty, .string ByteArray.empty, .string ByteArray.empty, .string ByteArray.empty], .int .u16 0, .string ByteArray.empty] 8 rfl (World.shaped_of_RefB (by kernel_rfl) (by kernel_rfl)) (by kernel_rfl) (by kernel_rfl) (by kernel_rfl) (door_met os _)) ?_
  intro W base args ds gs before hval0 hW _ _ hL _
  have hval : ∀ (j : Nat) t v, Tryd.f6.params[j]? = some t → args[j]? = some v → Value.okWide Tryd.prog W .any base t v := hval0
  have hW' := hW
  obtain ⟨p, q, hA0, hV, rfl, hfz, hnd⟩ := hW
  have hA : DataW.TrodAll enc Tryd.prog W 0 (fun _ => true) true Tryd.f6.params.toList args.toList ds p := hA0
  rw [Tryd.params6] at hA hval
  obtain ⟨v0, vs0, d0, ds0, p0, q0, hargs, rfl, rfl, h0, r0⟩ := trodAll_cons hA
  obtain ⟨v1, vs1, d1, ds1, p1, q1, rfl, rfl, rfl, h1, r1⟩ := trodAll_cons r0
  obtain ⟨v2, vs2, d2, ds2, p2, q2, rfl, rfl, rfl, h2, r2⟩ := trodAll_cons r1
  obtain ⟨rfl, rfl, rfl⟩ := trodAll_nil r2
  obtain rfl : args = #[v0, v1, v2] := by cases args; simp_all
  obtain ⟨rfl, rfl⟩ := trodVars_none hV
  obtain ⟨a0, rfl, rfl, rfl, w0⟩ := open_nd (hval 0 25 v0 rfl rfl) h0
  obtain ⟨a1, rfl, rfl, rfl, w1⟩ := open_int Tryd.underlying44 (hval 1 44 v1 rfl rfl) h1
  obtain ⟨a2, rfl, rfl, rfl, w2⟩ := open_string Tryd.underlying9 (hval 2 9 v2 rfl rfl) h2
  have hl : LaidN W := laid_of hL
  clear hA0 hval0
  simp only [List.append_nil] at hW'
  refine (walk a0 a1 a2 w0 w1 w2 W hl).mono fun e W' ⟨he, bel⟩ => ?_
  subst he
  exact ⟨_, rfl, _, _, _, [], [], [], hW', trodAll_mk1 (shut_bool Tryd.underlying4 _), (trodAll_cons_mk (shut_nd w0) (trodAll_cons_mk (shut_int Tryd.underlying44 w1) (trodAll_cons_mk (shut_string Tryd.underlying9 w2) trodAll_mk0))), rfl, bel.frame _, fun h => by cases h⟩
theorem over : Rows.NodeCutsSaid :=
  OpenClaim.holds_of_wide 6 Tryd.f6 rfl rfl rfl rfl rfl rfl rfl ⟨rfl, rfl, rfl, rfl, rfl⟩ rfl rfl rfl rfl rfl (by kernel_rfl) Tryd.func6 (by kernel_rfl)
    (of_decide_eq_true (by kernel_rfl)) (by unfold Func.isWrapper; rw [if_neg (by decide +kernel)]; exact ⟨rfl, rfl⟩)
    (fun os started H enc _ => lifted os started H enc)
theorem proved : Rows.NodeCutsCardSaid :=
  Claim7.holds_tied_plain_at .later [] [.data, .data, .handle] true Rows.nodeCutsCard.stood.harness true
    over (fun _ h => by cases h) (by kernel_rfl) (fun _ h => by cases h) nodeCuts_row_tie rfl ⟨rfl, rfl⟩ (by kernel_rfl) rfl
    (fun f fn hf hfn => by
      obtain rfl : f = 6 := Option.some.inj ((show Tryd.prog.funcNamed "guilloche/guillochelaw04.NodeCuts" = some 6 by kernel_rfl).symm.trans hf) |>.symm
      obtain rfl : fn = Tryd.f6 := (Option.some.inj (Tryd.func6.symm.trans hfn)).symm
      exact ⟨by kernel_rfl, fun j t ht => by
        rw [Tryd.params6] at ht
        have hm : t ∈ [25, 44, 9] := by simpa using Array.mem_of_getElem? ht
        have hall : ([25, 44, 9].all fun u => !Tryd.prog.wantsStandIn u) = true := by kernel_rfl
        exact (show Tryd.prog.wantsStandIn t = false by simpa using List.all_eq_true.1 hall t hm)⟩)
    (by kernel_rfl)
end Go.Proofs.YtljadanalcfdeaaDoor.nodeCuts

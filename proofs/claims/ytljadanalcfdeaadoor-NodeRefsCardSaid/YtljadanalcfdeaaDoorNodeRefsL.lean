/-
  PROVED HERE: the law NodeRefs returns true for every two nodes (a node of less than 32 bytes stands in its own ref; a ref of another is its hash; two nodes have one ref only if the hash collides). What sha's tables and errors.errorType hold is as the program lays it (tied).
-/
import Derived.Test.YtljadanalcfdeaaDoorNodeColl
import Derived.Test.YtljadanalcfdeaaDoorCards
import Derived.Test.YtljadanalcfdeaaDoorTie
import Derived.WalkKit
import Derived.ProofKit
import Derived.LaidMore
import Derived.OpenShut
import Derived.ShutString
import Derived.ChangeOld
import Derived.Below
import Derived.Stop.Joined
import Derived.SevenTiedAt
namespace Go.Proofs.YtljadanalcfdeaaDoor.nodeRefs
open Go.ChangeShapes Go.WideShapes Go.ChangeAt Go.RowKit Go.Proofs.Nod
open Go.ChangeMaps (open_string shut_string)
set_option linter.unusedVariables false
set_option linter.unusedSimpArgs false
set_option maxRecDepth 100000 in
set_option maxHeartbeats 32000000 in
theorem walk (a0 : Nd) (a1 : Nd) (w0 : NdOk a0) (w1 : NdOk a1) (w : World) (hl : LaidN w) :
    Calls Tryd.prog 4 #[.agg (ndC a0), .agg (ndC a1)] w fun e w' => e = .returned (.bool true) ∧ Below w.heap.size w w' := by
  have WK := Lib.hid (fun W h => nworks_any W h)
  have LA : Hid (∀ W, Below w.heap.size w W → LaidN W) := Lib.hid (fun W h => hl.on h)
  have fewn := fun W => few_any a0 W (fun i hi => w0.each _ (rf_mem a0 i hi)) w0.path w0.value
  have fewm := fun W => few_any a1 W (fun i hi => w1.each _ (rf_mem a1 i hi)) w1.path w1.value
  have h16 := w0.refs
  have g16 := w1.refs
  obtain ⟨CS, hCS⟩ : ∃ z, z = ndC a0 := ⟨_, rfl⟩
  have NCS := Lib.hid (show Ndc CS by rw [hCS]; exact .of _)
  obtain ⟨CM, hCM⟩ : ∃ z, z = ndC a1 := ⟨_, rfl⟩
  have NCM := Lib.hid (show Ndc CM by rw [hCM]; exact .of _)
  obtain ⟨Z0, hZ0⟩ : ∃ z, z = ndC zeroN := ⟨_, rfl⟩
  have NZ := Lib.hid (show Ndc Z0 by rw [hZ0]; exact .of _)
  have HZ := Lib.hid hZ0
  have hk0 : CS[0]? = some (.int .i64 a0.kind) := by rw [hCS]; rfl
  have hk1 : CM[0]? = some (.int .i64 a1.kind) := by rw [hCM]; rfl
  have vn := fun W h => wk_valid a0 h16 W h
  have vm := fun W h => wk_valid a1 g16 W h
  have putn := fun W h => put_all a0 W h16 (fun r _ h => get_any r (by omega)) h
  have putm := fun W h => put_all a1 W g16 (fun r _ h => get_any r (by omega)) h
  unfold Ptd putB at putn putm
  rw [← hCS] at fewn vn putn ⊢
  rw [← hCM] at fewm vm putm ⊢
  have HCS := Lib.hid hCS
  have HCM := Lib.hid hCM
  obtain ⟨k0, hk⟩ : ∃ k, k = a0.kind := ⟨_, rfl⟩
  obtain ⟨k1, hk'⟩ : ∃ k, k = a1.kind := ⟨_, rfl⟩
  rw [← hk] at hk0
  rw [← hk'] at hk1
  have HK0 := Lib.hid hk0
  have HK1 := Lib.hid hk1
  clear hk0 hk1
  rcases hfn : fewB a0 with _ | _
  · rw [hfn] at fewn
    have FEWN := Lib.hid fewn
    clear hl fewn fewm hCS hCM hZ0 hfn w0 w1 h16 g16 vn vm putn putm hk hk'
    have B0 := Lib.hid (Bl.start w)
    have K1 := Lib.hid (by have := Blk.new (w) 25 CS; simpa using this : Blk ((w).alloc (.cells CS 25)) w.heap.size 25 CS)
    have B2 := Lib.hid (B0.out.alloc (.cells CS 25))
    have K3 := Lib.hid (K1.out.alloc (.cells CM 25))
    have K4 := Lib.hid (by have := Blk.new (w.alloc (.cells CS 25)) 25 CM; simpa using this : Blk ((w.alloc (.cells CS 25)).alloc (.cells CM 25)) (w.heap.size + 1) 25 CM)
    have B5 := Lib.hid (B2.out.alloc (.cells CM 25))
    go_enter Tryd.func4, Tryd.ntmps4
    go_upto_region 1 with (fail)
    generalize (w.alloc (.cells CS 25)).alloc (.cells CM 25) = W6 at K3 K4 B5 ⊢
    refine wp_region_lit (Segs.WL.out ?_)
    refine Segs.WL.call (some 16) 8 #[] _ rfl (by kernel_rfl) (by kernel_rfl) (WK.out W6 (LA.out _ B5.out.1)) (fun e W7 hR => ?_)
    obtain ⟨rfl, hb⟩ := hR
    refine ⟨_, rfl, ?_⟩
    simp only [Act.put, List.setIfInBounds_toArray, List.set_cons_zero, List.set_cons_succ]
    have K8 := Lib.hid (K3.out.below hb)
    have K9 := Lib.hid (K4.out.below hb)
    have B10 := Lib.hid (B5.out.call hb)
    clear hb
    refine Segs.WL.val (some 5) (.bool true) W7 rfl (by kernel_rfl) (by kernel_rfl) ?_
    simp only [Act.put, List.setIfInBounds_toArray, List.set_cons_zero, List.set_cons_succ]
    refine Segs.WL.nil ?_
    go_upto_region 2 with (fail)
    refine wp_region_lit (Segs.WL.out ?_)
    refine Segs.WL.val (some 17) (.bool true) W7 rfl (by kernel_rfl) (by kernel_rfl) ?_
    simp only [Act.put, List.setIfInBounds_toArray, List.set_cons_zero, List.set_cons_succ]
    refine Segs.WL.val (some 18) (.bool false) W7 rfl (by kernel_rfl) (by kernel_rfl) ?_
    simp only [Act.put, List.setIfInBounds_toArray, List.set_cons_zero, List.set_cons_succ]
    refine Segs.WL.nil ?_
    go_upto_region 4 with (fail)
    refine wp_region_lit (Segs.WL.out ?_)
    refine Segs.WL.val (some 19) (.agg CS) W7 rfl (by kernel_rfl) (Segs.run_row 25 (.tmp 2) rfl w.heap.size (by kernel_rfl) 25 CS _ K8.out Tryd.underlying25 rfl (info19 (NCS.out.size))) ?_
    simp only [Act.put, List.setIfInBounds_toArray, List.set_cons_zero, List.set_cons_succ]
    refine Segs.WL.call (some 20) 9 #[.agg CS] _ rfl (by kernel_rfl) (by kernel_rfl) (FEWN.out W7) (fun e W11 hR => ?_)
    obtain ⟨rfl, hb⟩ := hR
    refine ⟨_, rfl, ?_⟩
    simp only [Act.put, List.setIfInBounds_toArray, List.set_cons_zero, List.set_cons_succ]
    have K12 := Lib.hid (K8.out.below hb)
    have K13 := Lib.hid (K9.out.below hb)
    have B14 := Lib.hid (B10.out.call hb)
    clear hb
    refine Segs.WL.val (some 21) (.bool false) W11 rfl (by kernel_rfl) (by kernel_rfl) ?_
    simp only [Act.put, List.setIfInBounds_toArray, List.set_cons_zero, List.set_cons_succ]
    refine Segs.WL.not (some 22) rfl (by kernel_rfl) ?_
    simp only [Act.put, List.setIfInBounds_toArray, List.set_cons_zero, List.set_cons_succ]
    refine Segs.WL.not (some 23) rfl (by kernel_rfl) ?_
    simp only [Act.put, List.setIfInBounds_toArray, List.set_cons_zero, List.set_cons_succ]
    refine Segs.WL.val (some 24) (.bool false) W11 rfl (by kernel_rfl) (by kernel_rfl) ?_
    simp only [Act.put, List.setIfInBounds_toArray, List.set_cons_zero, List.set_cons_succ]
    refine Segs.WL.val (some 6) (.bool false) W11 rfl (by kernel_rfl) (by kernel_rfl) ?_
    simp only [Act.put, List.setIfInBounds_toArray, List.set_cons_zero, List.set_cons_succ]
    refine Segs.WL.nil ?_
    go_upto_region 5 with (fail)
    refine wp_region_lit (Segs.WL.out ?_)
    refine Segs.WL.val (some 25) (.bool false) W11 rfl (by kernel_rfl) (by kernel_rfl) ?_
    simp only [Act.put, List.setIfInBounds_toArray, List.set_cons_zero, List.set_cons_succ]
    refine Segs.WL.val (some 26) (.bool true) W11 rfl (by kernel_rfl) (by kernel_rfl) ?_
    simp only [Act.put, List.setIfInBounds_toArray, List.set_cons_zero, List.set_cons_succ]
    refine Segs.WL.val (some 27) (.bool true) W11 rfl (by kernel_rfl) (by kernel_rfl) ?_
    simp only [Act.put, List.setIfInBounds_toArray, List.set_cons_zero, List.set_cons_succ]
    refine Segs.WL.not (some 28) rfl (by kernel_rfl) ?_
    simp only [Act.put, List.setIfInBounds_toArray, List.set_cons_zero, List.set_cons_succ]
    refine Segs.WL.not (some 29) rfl (by kernel_rfl) ?_
    simp only [Act.put, List.setIfInBounds_toArray, List.set_cons_zero, List.set_cons_succ]
    refine Segs.WL.not (some 30) rfl (by kernel_rfl) ?_
    simp only [Act.put, List.setIfInBounds_toArray, List.set_cons_zero, List.set_cons_succ]
    refine Segs.WL.val (some 31) (.bool true) W11 rfl (by kernel_rfl) (by kernel_rfl) ?_
    simp only [Act.put, List.setIfInBounds_toArray, List.set_cons_zero, List.set_cons_succ]
    refine Segs.WL.val (some 32) (.bool true) W11 rfl (by kernel_rfl) (by kernel_rfl) ?_
    simp only [Act.put, List.setIfInBounds_toArray, List.set_cons_zero, List.set_cons_succ]
    refine Segs.WL.not (some 33) rfl (by kernel_rfl) ?_
    simp only [Act.put, List.setIfInBounds_toArray, List.set_cons_zero, List.set_cons_succ]
    refine Segs.WL.not (some 34) rfl (by kernel_rfl) ?_
    simp only [Act.put, List.setIfInBounds_toArray, List.set_cons_zero, List.set_cons_succ]
    refine Segs.WL.not (some 35) rfl (by kernel_rfl) ?_
    simp only [Act.put, List.setIfInBounds_toArray, List.set_cons_zero, List.set_cons_succ]
    refine Segs.WL.val (some 36) (.bool true) W11 rfl (by kernel_rfl) (by kernel_rfl) ?_
    simp only [Act.put, List.setIfInBounds_toArray, List.set_cons_zero, List.set_cons_succ]
    refine Segs.WL.val (some 37) (.bool true) W11 rfl (by kernel_rfl) (by kernel_rfl) ?_
    simp only [Act.put, List.setIfInBounds_toArray, List.set_cons_zero, List.set_cons_succ]
    refine Segs.WL.not (some 38) rfl (by kernel_rfl) ?_
    simp only [Act.put, List.setIfInBounds_toArray, List.set_cons_zero, List.set_cons_succ]
    refine Segs.WL.not (some 39) rfl (by kernel_rfl) ?_
    simp only [Act.put, List.setIfInBounds_toArray, List.set_cons_zero, List.set_cons_succ]
    refine Segs.WL.not (some 40) rfl (by kernel_rfl) ?_
    simp only [Act.put, List.setIfInBounds_toArray, List.set_cons_zero, List.set_cons_succ]
    refine Segs.WL.val (some 41) (.bool true) W11 rfl (by kernel_rfl) (by kernel_rfl) ?_
    simp only [Act.put, List.setIfInBounds_toArray, List.set_cons_zero, List.set_cons_succ]
    refine Segs.WL.val (some 42) (.bool true) W11 rfl (by kernel_rfl) (by kernel_rfl) ?_
    simp only [Act.put, List.setIfInBounds_toArray, List.set_cons_zero, List.set_cons_succ]
    refine Segs.WL.not (some 43) rfl (by kernel_rfl) ?_
    simp only [Act.put, List.setIfInBounds_toArray, List.set_cons_zero, List.set_cons_succ]
    refine Segs.WL.not (some 44) rfl (by kernel_rfl) ?_
    simp only [Act.put, List.setIfInBounds_toArray, List.set_cons_zero, List.set_cons_succ]
    refine Segs.WL.not (some 45) rfl (by kernel_rfl) ?_
    simp only [Act.put, List.setIfInBounds_toArray, List.set_cons_zero, List.set_cons_succ]
    refine Segs.WL.val (some 46) (.bool true) W11 rfl (by kernel_rfl) (by kernel_rfl) ?_
    simp only [Act.put, List.setIfInBounds_toArray, List.set_cons_zero, List.set_cons_succ]
    refine Segs.WL.nil ?_
    go_wp2_with fail
    go_ret
    exact ⟨rfl, B14.out.1⟩
  rw [hfn] at fewn
  have FEWN := Lib.hid fewn
  rcases hfm : fewB a1 with _ | _
  · rw [hfm] at fewm
    have FEWM := Lib.hid fewm
    clear hl fewn fewm hCS hCM hZ0 hfn hfm w0 w1 h16 g16 vn vm putn putm hk hk'
    have B0 := Lib.hid (Bl.start w)
    have K1 := Lib.hid (by have := Blk.new (w) 25 CS; simpa using this : Blk ((w).alloc (.cells CS 25)) w.heap.size 25 CS)
    have B2 := Lib.hid (B0.out.alloc (.cells CS 25))
    have K3 := Lib.hid (K1.out.alloc (.cells CM 25))
    have K4 := Lib.hid (by have := Blk.new (w.alloc (.cells CS 25)) 25 CM; simpa using this : Blk ((w.alloc (.cells CS 25)).alloc (.cells CM 25)) (w.heap.size + 1) 25 CM)
    have B5 := Lib.hid (B2.out.alloc (.cells CM 25))
    go_enter Tryd.func4, Tryd.ntmps4
    go_upto_region 1 with (fail)
    generalize (w.alloc (.cells CS 25)).alloc (.cells CM 25) = W6 at K3 K4 B5 ⊢
    refine wp_region_lit (Segs.WL.out ?_)
    refine Segs.WL.call (some 16) 8 #[] _ rfl (by kernel_rfl) (by kernel_rfl) (WK.out W6 (LA.out _ B5.out.1)) (fun e W7 hR => ?_)
    obtain ⟨rfl, hb⟩ := hR
    refine ⟨_, rfl, ?_⟩
    simp only [Act.put, List.setIfInBounds_toArray, List.set_cons_zero, List.set_cons_succ]
    have K8 := Lib.hid (K3.out.below hb)
    have K9 := Lib.hid (K4.out.below hb)
    have B10 := Lib.hid (B5.out.call hb)
    clear hb
    refine Segs.WL.val (some 5) (.bool true) W7 rfl (by kernel_rfl) (by kernel_rfl) ?_
    simp only [Act.put, List.setIfInBounds_toArray, List.set_cons_zero, List.set_cons_succ]
    refine Segs.WL.nil ?_
    go_upto_region 2 with (fail)
    refine wp_region_lit (Segs.WL.out ?_)
    refine Segs.WL.val (some 17) (.bool true) W7 rfl (by kernel_rfl) (by kernel_rfl) ?_
    simp only [Act.put, List.setIfInBounds_toArray, List.set_cons_zero, List.set_cons_succ]
    refine Segs.WL.val (some 18) (.bool false) W7 rfl (by kernel_rfl) (by kernel_rfl) ?_
    simp only [Act.put, List.setIfInBounds_toArray, List.set_cons_zero, List.set_cons_succ]
    refine Segs.WL.nil ?_
    go_upto_region 4 with (fail)
    refine wp_region_lit (Segs.WL.out ?_)
    refine Segs.WL.val (some 19) (.agg CS) W7 rfl (by kernel_rfl) (Segs.run_row 25 (.tmp 2) rfl w.heap.size (by kernel_rfl) 25 CS _ K8.out Tryd.underlying25 rfl (info19 (NCS.out.size))) ?_
    simp only [Act.put, List.setIfInBounds_toArray, List.set_cons_zero, List.set_cons_succ]
    refine Segs.WL.call (some 20) 9 #[.agg CS] _ rfl (by kernel_rfl) (by kernel_rfl) (FEWN.out W7) (fun e W11 hR => ?_)
    obtain ⟨rfl, hb⟩ := hR
    refine ⟨_, rfl, ?_⟩
    simp only [Act.put, List.setIfInBounds_toArray, List.set_cons_zero, List.set_cons_succ]
    have K12 := Lib.hid (K8.out.below hb)
    have K13 := Lib.hid (K9.out.below hb)
    have B14 := Lib.hid (B10.out.call hb)
    clear hb
    refine Segs.WL.val (some 21) (.bool true) W11 rfl (by kernel_rfl) (by kernel_rfl) ?_
    simp only [Act.put, List.setIfInBounds_toArray, List.set_cons_zero, List.set_cons_succ]
    refine Segs.WL.val (some 22) (.agg CM) W11 rfl (by kernel_rfl) (Segs.run_row 25 (.tmp 3) rfl (w.heap.size + 1) (by kernel_rfl) 25 CM _ K13.out Tryd.underlying25 rfl (info19 (NCM.out.size))) ?_
    simp only [Act.put, List.setIfInBounds_toArray, List.set_cons_zero, List.set_cons_succ]
    refine Segs.WL.call (some 23) 9 #[.agg CM] _ rfl (by kernel_rfl) (by kernel_rfl) (FEWM.out W11) (fun e W15 hR => ?_)
    obtain ⟨rfl, hb⟩ := hR
    refine ⟨_, rfl, ?_⟩
    simp only [Act.put, List.setIfInBounds_toArray, List.set_cons_zero, List.set_cons_succ]
    have K16 := Lib.hid (K12.out.below hb)
    have K17 := Lib.hid (K13.out.below hb)
    have B18 := Lib.hid (B14.out.call hb)
    clear hb
    refine Segs.WL.val (some 24) (.bool false) W15 rfl (by kernel_rfl) (by kernel_rfl) ?_
    simp only [Act.put, List.setIfInBounds_toArray, List.set_cons_zero, List.set_cons_succ]
    refine Segs.WL.val (some 6) (.bool false) W15 rfl (by kernel_rfl) (by kernel_rfl) ?_
    simp only [Act.put, List.setIfInBounds_toArray, List.set_cons_zero, List.set_cons_succ]
    refine Segs.WL.nil ?_
    go_upto_region 5 with (fail)
    refine wp_region_lit (Segs.WL.out ?_)
    refine Segs.WL.val (some 25) (.bool false) W15 rfl (by kernel_rfl) (by kernel_rfl) ?_
    simp only [Act.put, List.setIfInBounds_toArray, List.set_cons_zero, List.set_cons_succ]
    refine Segs.WL.val (some 26) (.bool true) W15 rfl (by kernel_rfl) (by kernel_rfl) ?_
    simp only [Act.put, List.setIfInBounds_toArray, List.set_cons_zero, List.set_cons_succ]
    refine Segs.WL.val (some 27) (.bool true) W15 rfl (by kernel_rfl) (by kernel_rfl) ?_
    simp only [Act.put, List.setIfInBounds_toArray, List.set_cons_zero, List.set_cons_succ]
    refine Segs.WL.not (some 28) rfl (by kernel_rfl) ?_
    simp only [Act.put, List.setIfInBounds_toArray, List.set_cons_zero, List.set_cons_succ]
    refine Segs.WL.not (some 29) rfl (by kernel_rfl) ?_
    simp only [Act.put, List.setIfInBounds_toArray, List.set_cons_zero, List.set_cons_succ]
    refine Segs.WL.not (some 30) rfl (by kernel_rfl) ?_
    simp only [Act.put, List.setIfInBounds_toArray, List.set_cons_zero, List.set_cons_succ]
    refine Segs.WL.val (some 31) (.bool true) W15 rfl (by kernel_rfl) (by kernel_rfl) ?_
    simp only [Act.put, List.setIfInBounds_toArray, List.set_cons_zero, List.set_cons_succ]
    refine Segs.WL.val (some 32) (.bool true) W15 rfl (by kernel_rfl) (by kernel_rfl) ?_
    simp only [Act.put, List.setIfInBounds_toArray, List.set_cons_zero, List.set_cons_succ]
    refine Segs.WL.not (some 33) rfl (by kernel_rfl) ?_
    simp only [Act.put, List.setIfInBounds_toArray, List.set_cons_zero, List.set_cons_succ]
    refine Segs.WL.not (some 34) rfl (by kernel_rfl) ?_
    simp only [Act.put, List.setIfInBounds_toArray, List.set_cons_zero, List.set_cons_succ]
    refine Segs.WL.not (some 35) rfl (by kernel_rfl) ?_
    simp only [Act.put, List.setIfInBounds_toArray, List.set_cons_zero, List.set_cons_succ]
    refine Segs.WL.val (some 36) (.bool true) W15 rfl (by kernel_rfl) (by kernel_rfl) ?_
    simp only [Act.put, List.setIfInBounds_toArray, List.set_cons_zero, List.set_cons_succ]
    refine Segs.WL.val (some 37) (.bool true) W15 rfl (by kernel_rfl) (by kernel_rfl) ?_
    simp only [Act.put, List.setIfInBounds_toArray, List.set_cons_zero, List.set_cons_succ]
    refine Segs.WL.not (some 38) rfl (by kernel_rfl) ?_
    simp only [Act.put, List.setIfInBounds_toArray, List.set_cons_zero, List.set_cons_succ]
    refine Segs.WL.not (some 39) rfl (by kernel_rfl) ?_
    simp only [Act.put, List.setIfInBounds_toArray, List.set_cons_zero, List.set_cons_succ]
    refine Segs.WL.not (some 40) rfl (by kernel_rfl) ?_
    simp only [Act.put, List.setIfInBounds_toArray, List.set_cons_zero, List.set_cons_succ]
    refine Segs.WL.val (some 41) (.bool true) W15 rfl (by kernel_rfl) (by kernel_rfl) ?_
    simp only [Act.put, List.setIfInBounds_toArray, List.set_cons_zero, List.set_cons_succ]
    refine Segs.WL.val (some 42) (.bool true) W15 rfl (by kernel_rfl) (by kernel_rfl) ?_
    simp only [Act.put, List.setIfInBounds_toArray, List.set_cons_zero, List.set_cons_succ]
    refine Segs.WL.not (some 43) rfl (by kernel_rfl) ?_
    simp only [Act.put, List.setIfInBounds_toArray, List.set_cons_zero, List.set_cons_succ]
    refine Segs.WL.not (some 44) rfl (by kernel_rfl) ?_
    simp only [Act.put, List.setIfInBounds_toArray, List.set_cons_zero, List.set_cons_succ]
    refine Segs.WL.not (some 45) rfl (by kernel_rfl) ?_
    simp only [Act.put, List.setIfInBounds_toArray, List.set_cons_zero, List.set_cons_succ]
    refine Segs.WL.val (some 46) (.bool true) W15 rfl (by kernel_rfl) (by kernel_rfl) ?_
    simp only [Act.put, List.setIfInBounds_toArray, List.set_cons_zero, List.set_cons_succ]
    refine Segs.WL.nil ?_
    go_wp2_with fail
    go_ret
    exact ⟨rfl, B18.out.1⟩
  rw [hfm] at fewm
  have FEWM := Lib.hid fewm
  rcases hvn : validB a0 with _ | _
  · rw [hvn] at vn
    have VN := Lib.hid vn
    clear hl fewn fewm hCS hCM hZ0 hfn hfm w0 w1 h16 g16 vn vm putn putm hvn hk hk'
    have B0 := Lib.hid (Bl.start w)
    have K1 := Lib.hid (by have := Blk.new (w) 25 CS; simpa using this : Blk ((w).alloc (.cells CS 25)) w.heap.size 25 CS)
    have B2 := Lib.hid (B0.out.alloc (.cells CS 25))
    have K3 := Lib.hid (K1.out.alloc (.cells CM 25))
    have K4 := Lib.hid (by have := Blk.new (w.alloc (.cells CS 25)) 25 CM; simpa using this : Blk ((w.alloc (.cells CS 25)).alloc (.cells CM 25)) (w.heap.size + 1) 25 CM)
    have B5 := Lib.hid (B2.out.alloc (.cells CM 25))
    go_enter Tryd.func4, Tryd.ntmps4
    go_upto_region 1 with (fail)
    generalize (w.alloc (.cells CS 25)).alloc (.cells CM 25) = W6 at K3 K4 B5 ⊢
    refine wp_region_lit (Segs.WL.out ?_)
    refine Segs.WL.call (some 16) 8 #[] _ rfl (by kernel_rfl) (by kernel_rfl) (WK.out W6 (LA.out _ B5.out.1)) (fun e W7 hR => ?_)
    obtain ⟨rfl, hb⟩ := hR
    refine ⟨_, rfl, ?_⟩
    simp only [Act.put, List.setIfInBounds_toArray, List.set_cons_zero, List.set_cons_succ]
    have K8 := Lib.hid (K3.out.below hb)
    have K9 := Lib.hid (K4.out.below hb)
    have B10 := Lib.hid (B5.out.call hb)
    clear hb
    refine Segs.WL.val (some 5) (.bool true) W7 rfl (by kernel_rfl) (by kernel_rfl) ?_
    simp only [Act.put, List.setIfInBounds_toArray, List.set_cons_zero, List.set_cons_succ]
    refine Segs.WL.nil ?_
    go_upto_region 2 with (fail)
    refine wp_region_lit (Segs.WL.out ?_)
    refine Segs.WL.val (some 17) (.bool true) W7 rfl (by kernel_rfl) (by kernel_rfl) ?_
    simp only [Act.put, List.setIfInBounds_toArray, List.set_cons_zero, List.set_cons_succ]
    refine Segs.WL.val (some 18) (.bool false) W7 rfl (by kernel_rfl) (by kernel_rfl) ?_
    simp only [Act.put, List.setIfInBounds_toArray, List.set_cons_zero, List.set_cons_succ]
    refine Segs.WL.nil ?_
    go_upto_region 4 with (fail)
    refine wp_region_lit (Segs.WL.out ?_)
    refine Segs.WL.val (some 19) (.agg CS) W7 rfl (by kernel_rfl) (Segs.run_row 25 (.tmp 2) rfl w.heap.size (by kernel_rfl) 25 CS _ K8.out Tryd.underlying25 rfl (info19 (NCS.out.size))) ?_
    simp only [Act.put, List.setIfInBounds_toArray, List.set_cons_zero, List.set_cons_succ]
    refine Segs.WL.call (some 20) 9 #[.agg CS] _ rfl (by kernel_rfl) (by kernel_rfl) (FEWN.out W7) (fun e W11 hR => ?_)
    obtain ⟨rfl, hb⟩ := hR
    refine ⟨_, rfl, ?_⟩
    simp only [Act.put, List.setIfInBounds_toArray, List.set_cons_zero, List.set_cons_succ]
    have K12 := Lib.hid (K8.out.below hb)
    have K13 := Lib.hid (K9.out.below hb)
    have B14 := Lib.hid (B10.out.call hb)
    clear hb
    refine Segs.WL.val (some 21) (.bool true) W11 rfl (by kernel_rfl) (by kernel_rfl) ?_
    simp only [Act.put, List.setIfInBounds_toArray, List.set_cons_zero, List.set_cons_succ]
    refine Segs.WL.val (some 22) (.agg CM) W11 rfl (by kernel_rfl) (Segs.run_row 25 (.tmp 3) rfl (w.heap.size + 1) (by kernel_rfl) 25 CM _ K13.out Tryd.underlying25 rfl (info19 (NCM.out.size))) ?_
    simp only [Act.put, List.setIfInBounds_toArray, List.set_cons_zero, List.set_cons_succ]
    refine Segs.WL.call (some 23) 9 #[.agg CM] _ rfl (by kernel_rfl) (by kernel_rfl) (FEWM.out W11) (fun e W15 hR => ?_)
    obtain ⟨rfl, hb⟩ := hR
    refine ⟨_, rfl, ?_⟩
    simp only [Act.put, List.setIfInBounds_toArray, List.set_cons_zero, List.set_cons_succ]
    have K16 := Lib.hid (K12.out.below hb)
    have K17 := Lib.hid (K13.out.below hb)
    have B18 := Lib.hid (B14.out.call hb)
    clear hb
    refine Segs.WL.val (some 24) (.bool true) W15 rfl (by kernel_rfl) (by kernel_rfl) ?_
    simp only [Act.put, List.setIfInBounds_toArray, List.set_cons_zero, List.set_cons_succ]
    refine Segs.WL.val (some 6) (.bool true) W15 rfl (by kernel_rfl) (by kernel_rfl) ?_
    simp only [Act.put, List.setIfInBounds_toArray, List.set_cons_zero, List.set_cons_succ]
    refine Segs.WL.nil ?_
    go_upto_region 5 with (fail)
    refine wp_region_lit (Segs.WL.out ?_)
    refine Segs.WL.val (some 25) (.bool true) W15 rfl (by kernel_rfl) (by kernel_rfl) ?_
    simp only [Act.put, List.setIfInBounds_toArray, List.set_cons_zero, List.set_cons_succ]
    refine Segs.WL.val (some 26) (.bool false) W15 rfl (by kernel_rfl) (by kernel_rfl) ?_
    simp only [Act.put, List.setIfInBounds_toArray, List.set_cons_zero, List.set_cons_succ]
    refine Segs.WL.val (some 27) (.bool false) W15 rfl (by kernel_rfl) (by kernel_rfl) ?_
    simp only [Act.put, List.setIfInBounds_toArray, List.set_cons_zero, List.set_cons_succ]
    refine Segs.WL.val (some 28) (.agg CS) W15 rfl (by kernel_rfl) (Segs.run_row 25 (.tmp 2) rfl w.heap.size (by kernel_rfl) 25 CS _ K16.out Tryd.underlying25 rfl (info19 (NCS.out.size))) ?_
    simp only [Act.put, List.setIfInBounds_toArray, List.set_cons_zero, List.set_cons_succ]
    refine Segs.WL.call (some 29) 12 #[.agg CS] _ rfl (by kernel_rfl) (by kernel_rfl) (VN.out W15 (LA.out _ B18.out.1).err) (fun e W19 hR => ?_)
    obtain ⟨rfl, hb⟩ := hR
    refine ⟨_, rfl, ?_⟩
    simp only [Act.put, List.setIfInBounds_toArray, List.set_cons_zero, List.set_cons_succ]
    have K20 := Lib.hid (K16.out.below hb)
    have K21 := Lib.hid (K17.out.below hb)
    have B22 := Lib.hid (B18.out.call hb)
    clear hb
    refine Segs.WL.val (some 30) (.bool true) W19 rfl (by kernel_rfl) (by kernel_rfl) ?_
    simp only [Act.put, List.setIfInBounds_toArray, List.set_cons_zero, List.set_cons_succ]
    refine Segs.WL.val (some 31) (.bool true) W19 rfl (by kernel_rfl) (by kernel_rfl) ?_
    simp only [Act.put, List.setIfInBounds_toArray, List.set_cons_zero, List.set_cons_succ]
    refine Segs.WL.val (some 32) (.bool true) W19 rfl (by kernel_rfl) (by kernel_rfl) ?_
    simp only [Act.put, List.setIfInBounds_toArray, List.set_cons_zero, List.set_cons_succ]
    refine Segs.WL.not (some 33) rfl (by kernel_rfl) ?_
    simp only [Act.put, List.setIfInBounds_toArray, List.set_cons_zero, List.set_cons_succ]
    refine Segs.WL.not (some 34) rfl (by kernel_rfl) ?_
    simp only [Act.put, List.setIfInBounds_toArray, List.set_cons_zero, List.set_cons_succ]
    refine Segs.WL.not (some 35) rfl (by kernel_rfl) ?_
    simp only [Act.put, List.setIfInBounds_toArray, List.set_cons_zero, List.set_cons_succ]
    refine Segs.WL.val (some 36) (.bool true) W19 rfl (by kernel_rfl) (by kernel_rfl) ?_
    simp only [Act.put, List.setIfInBounds_toArray, List.set_cons_zero, List.set_cons_succ]
    refine Segs.WL.val (some 37) (.bool true) W19 rfl (by kernel_rfl) (by kernel_rfl) ?_
    simp only [Act.put, List.setIfInBounds_toArray, List.set_cons_zero, List.set_cons_succ]
    refine Segs.WL.not (some 38) rfl (by kernel_rfl) ?_
    simp only [Act.put, List.setIfInBounds_toArray, List.set_cons_zero, List.set_cons_succ]
    refine Segs.WL.not (some 39) rfl (by kernel_rfl) ?_
    simp only [Act.put, List.setIfInBounds_toArray, List.set_cons_zero, List.set_cons_succ]
    refine Segs.WL.not (some 40) rfl (by kernel_rfl) ?_
    simp only [Act.put, List.setIfInBounds_toArray, List.set_cons_zero, List.set_cons_succ]
    refine Segs.WL.val (some 41) (.bool true) W19 rfl (by kernel_rfl) (by kernel_rfl) ?_
    simp only [Act.put, List.setIfInBounds_toArray, List.set_cons_zero, List.set_cons_succ]
    refine Segs.WL.val (some 42) (.bool true) W19 rfl (by kernel_rfl) (by kernel_rfl) ?_
    simp only [Act.put, List.setIfInBounds_toArray, List.set_cons_zero, List.set_cons_succ]
    refine Segs.WL.not (some 43) rfl (by kernel_rfl) ?_
    simp only [Act.put, List.setIfInBounds_toArray, List.set_cons_zero, List.set_cons_succ]
    refine Segs.WL.not (some 44) rfl (by kernel_rfl) ?_
    simp only [Act.put, List.setIfInBounds_toArray, List.set_cons_zero, List.set_cons_succ]
    refine Segs.WL.not (some 45) rfl (by kernel_rfl) ?_
    simp only [Act.put, List.setIfInBounds_toArray, List.set_cons_zero, List.set_cons_succ]
    refine Segs.WL.val (some 46) (.bool true) W19 rfl (by kernel_rfl) (by kernel_rfl) ?_
    simp only [Act.put, List.setIfInBounds_toArray, List.set_cons_zero, List.set_cons_succ]
    refine Segs.WL.nil ?_
    go_wp2_with fail
    go_ret
    exact ⟨rfl, B22.out.1⟩
  rw [hvn] at vn putn
  have VN := Lib.hid vn
  rcases hvm : validB a1 with _ | _
  · rw [hvm] at vm
    have VM := Lib.hid vm
    clear hl fewn fewm hCS hCM hZ0 hfn hfm w0 w1 h16 g16 vn vm putn putm hvn hvm hk hk'
    have B0 := Lib.hid (Bl.start w)
    have K1 := Lib.hid (by have := Blk.new (w) 25 CS; simpa using this : Blk ((w).alloc (.cells CS 25)) w.heap.size 25 CS)
    have B2 := Lib.hid (B0.out.alloc (.cells CS 25))
    have K3 := Lib.hid (K1.out.alloc (.cells CM 25))
    have K4 := Lib.hid (by have := Blk.new (w.alloc (.cells CS 25)) 25 CM; simpa using this : Blk ((w.alloc (.cells CS 25)).alloc (.cells CM 25)) (w.heap.size + 1) 25 CM)
    have B5 := Lib.hid (B2.out.alloc (.cells CM 25))
    go_enter Tryd.func4, Tryd.ntmps4
    go_upto_region 1 with (fail)
    generalize (w.alloc (.cells CS 25)).alloc (.cells CM 25) = W6 at K3 K4 B5 ⊢
    refine wp_region_lit (Segs.WL.out ?_)
    refine Segs.WL.call (some 16) 8 #[] _ rfl (by kernel_rfl) (by kernel_rfl) (WK.out W6 (LA.out _ B5.out.1)) (fun e W7 hR => ?_)
    obtain ⟨rfl, hb⟩ := hR
    refine ⟨_, rfl, ?_⟩
    simp only [Act.put, List.setIfInBounds_toArray, List.set_cons_zero, List.set_cons_succ]
    have K8 := Lib.hid (K3.out.below hb)
    have K9 := Lib.hid (K4.out.below hb)
    have B10 := Lib.hid (B5.out.call hb)
    clear hb
    refine Segs.WL.val (some 5) (.bool true) W7 rfl (by kernel_rfl) (by kernel_rfl) ?_
    simp only [Act.put, List.setIfInBounds_toArray, List.set_cons_zero, List.set_cons_succ]
    refine Segs.WL.nil ?_
    go_upto_region 2 with (fail)
    refine wp_region_lit (Segs.WL.out ?_)
    refine Segs.WL.val (some 17) (.bool true) W7 rfl (by kernel_rfl) (by kernel_rfl) ?_
    simp only [Act.put, List.setIfInBounds_toArray, List.set_cons_zero, List.set_cons_succ]
    refine Segs.WL.val (some 18) (.bool false) W7 rfl (by kernel_rfl) (by kernel_rfl) ?_
    simp only [Act.put, List.setIfInBounds_toArray, List.set_cons_zero, List.set_cons_succ]
    refine Segs.WL.nil ?_
    go_upto_region 4 with (fail)
    refine wp_region_lit (Segs.WL.out ?_)
    refine Segs.WL.val (some 19) (.agg CS) W7 rfl (by kernel_rfl) (Segs.run_row 25 (.tmp 2) rfl w.heap.size (by kernel_rfl) 25 CS _ K8.out Tryd.underlying25 rfl (info19 (NCS.out.size))) ?_
    simp only [Act.put, List.setIfInBounds_toArray, List.set_cons_zero, List.set_cons_succ]
    refine Segs.WL.call (some 20) 9 #[.agg CS] _ rfl (by kernel_rfl) (by kernel_rfl) (FEWN.out W7) (fun e W11 hR => ?_)
    obtain ⟨rfl, hb⟩ := hR
    refine ⟨_, rfl, ?_⟩
    simp only [Act.put, List.setIfInBounds_toArray, List.set_cons_zero, List.set_cons_succ]
    have K12 := Lib.hid (K8.out.below hb)
    have K13 := Lib.hid (K9.out.below hb)
    have B14 := Lib.hid (B10.out.call hb)
    clear hb
    refine Segs.WL.val (some 21) (.bool true) W11 rfl (by kernel_rfl) (by kernel_rfl) ?_
    simp only [Act.put, List.setIfInBounds_toArray, List.set_cons_zero, List.set_cons_succ]
    refine Segs.WL.val (some 22) (.agg CM) W11 rfl (by kernel_rfl) (Segs.run_row 25 (.tmp 3) rfl (w.heap.size + 1) (by kernel_rfl) 25 CM _ K13.out Tryd.underlying25 rfl (info19 (NCM.out.size))) ?_
    simp only [Act.put, List.setIfInBounds_toArray, List.set_cons_zero, List.set_cons_succ]
    refine Segs.WL.call (some 23) 9 #[.agg CM] _ rfl (by kernel_rfl) (by kernel_rfl) (FEWM.out W11) (fun e W15 hR => ?_)
    obtain ⟨rfl, hb⟩ := hR
    refine ⟨_, rfl, ?_⟩
    simp only [Act.put, List.setIfInBounds_toArray, List.set_cons_zero, List.set_cons_succ]
    have K16 := Lib.hid (K12.out.below hb)
    have K17 := Lib.hid (K13.out.below hb)
    have B18 := Lib.hid (B14.out.call hb)
    clear hb
    refine Segs.WL.val (some 24) (.bool true) W15 rfl (by kernel_rfl) (by kernel_rfl) ?_
    simp only [Act.put, List.setIfInBounds_toArray, List.set_cons_zero, List.set_cons_succ]
    refine Segs.WL.val (some 6) (.bool true) W15 rfl (by kernel_rfl) (by kernel_rfl) ?_
    simp only [Act.put, List.setIfInBounds_toArray, List.set_cons_zero, List.set_cons_succ]
    refine Segs.WL.nil ?_
    go_upto_region 5 with (fail)
    refine wp_region_lit (Segs.WL.out ?_)
    refine Segs.WL.val (some 25) (.bool true) W15 rfl (by kernel_rfl) (by kernel_rfl) ?_
    simp only [Act.put, List.setIfInBounds_toArray, List.set_cons_zero, List.set_cons_succ]
    refine Segs.WL.val (some 26) (.bool false) W15 rfl (by kernel_rfl) (by kernel_rfl) ?_
    simp only [Act.put, List.setIfInBounds_toArray, List.set_cons_zero, List.set_cons_succ]
    refine Segs.WL.val (some 27) (.bool false) W15 rfl (by kernel_rfl) (by kernel_rfl) ?_
    simp only [Act.put, List.setIfInBounds_toArray, List.set_cons_zero, List.set_cons_succ]
    refine Segs.WL.val (some 28) (.agg CS) W15 rfl (by kernel_rfl) (Segs.run_row 25 (.tmp 2) rfl w.heap.size (by kernel_rfl) 25 CS _ K16.out Tryd.underlying25 rfl (info19 (NCS.out.size))) ?_
    simp only [Act.put, List.setIfInBounds_toArray, List.set_cons_zero, List.set_cons_succ]
    refine Segs.WL.call (some 29) 12 #[.agg CS] _ rfl (by kernel_rfl) (by kernel_rfl) (VN.out W15 (LA.out _ B18.out.1).err) (fun e W19 hR => ?_)
    obtain ⟨rfl, hb⟩ := hR
    refine ⟨_, rfl, ?_⟩
    simp only [Act.put, List.setIfInBounds_toArray, List.set_cons_zero, List.set_cons_succ]
    have K20 := Lib.hid (K16.out.below hb)
    have K21 := Lib.hid (K17.out.below hb)
    have B22 := Lib.hid (B18.out.call hb)
    clear hb
    refine Segs.WL.val (some 30) (.bool false) W19 rfl (by kernel_rfl) (by kernel_rfl) ?_
    simp only [Act.put, List.setIfInBounds_toArray, List.set_cons_zero, List.set_cons_succ]
    refine Segs.WL.val (some 31) (.bool false) W19 rfl (by kernel_rfl) (by kernel_rfl) ?_
    simp only [Act.put, List.setIfInBounds_toArray, List.set_cons_zero, List.set_cons_succ]
    refine Segs.WL.val (some 32) (.bool false) W19 rfl (by kernel_rfl) (by kernel_rfl) ?_
    simp only [Act.put, List.setIfInBounds_toArray, List.set_cons_zero, List.set_cons_succ]
    refine Segs.WL.val (some 33) (.agg CM) W19 rfl (by kernel_rfl) (Segs.run_row 25 (.tmp 3) rfl (w.heap.size + 1) (by kernel_rfl) 25 CM _ K21.out Tryd.underlying25 rfl (info19 (NCM.out.size))) ?_
    simp only [Act.put, List.setIfInBounds_toArray, List.set_cons_zero, List.set_cons_succ]
    refine Segs.WL.call (some 34) 12 #[.agg CM] _ rfl (by kernel_rfl) (by kernel_rfl) (VM.out W19 (LA.out _ B22.out.1).err) (fun e W23 hR => ?_)
    obtain ⟨rfl, hb⟩ := hR
    refine ⟨_, rfl, ?_⟩
    simp only [Act.put, List.setIfInBounds_toArray, List.set_cons_zero, List.set_cons_succ]
    have K24 := Lib.hid (K20.out.below hb)
    have K25 := Lib.hid (K21.out.below hb)
    have B26 := Lib.hid (B22.out.call hb)
    clear hb
    refine Segs.WL.val (some 35) (.bool true) W23 rfl (by kernel_rfl) (by kernel_rfl) ?_
    simp only [Act.put, List.setIfInBounds_toArray, List.set_cons_zero, List.set_cons_succ]
    refine Segs.WL.val (some 36) (.bool true) W23 rfl (by kernel_rfl) (by kernel_rfl) ?_
    simp only [Act.put, List.setIfInBounds_toArray, List.set_cons_zero, List.set_cons_succ]
    refine Segs.WL.val (some 37) (.bool true) W23 rfl (by kernel_rfl) (by kernel_rfl) ?_
    simp only [Act.put, List.setIfInBounds_toArray, List.set_cons_zero, List.set_cons_succ]
    refine Segs.WL.not (some 38) rfl (by kernel_rfl) ?_
    simp only [Act.put, List.setIfInBounds_toArray, List.set_cons_zero, List.set_cons_succ]
    refine Segs.WL.not (some 39) rfl (by kernel_rfl) ?_
    simp only [Act.put, List.setIfInBounds_toArray, List.set_cons_zero, List.set_cons_succ]
    refine Segs.WL.not (some 40) rfl (by kernel_rfl) ?_
    simp only [Act.put, List.setIfInBounds_toArray, List.set_cons_zero, List.set_cons_succ]
    refine Segs.WL.val (some 41) (.bool true) W23 rfl (by kernel_rfl) (by kernel_rfl) ?_
    simp only [Act.put, List.setIfInBounds_toArray, List.set_cons_zero, List.set_cons_succ]
    refine Segs.WL.val (some 42) (.bool true) W23 rfl (by kernel_rfl) (by kernel_rfl) ?_
    simp only [Act.put, List.setIfInBounds_toArray, List.set_cons_zero, List.set_cons_succ]
    refine Segs.WL.not (some 43) rfl (by kernel_rfl) ?_
    simp only [Act.put, List.setIfInBounds_toArray, List.set_cons_zero, List.set_cons_succ]
    refine Segs.WL.not (some 44) rfl (by kernel_rfl) ?_
    simp only [Act.put, List.setIfInBounds_toArray, List.set_cons_zero, List.set_cons_succ]
    refine Segs.WL.not (some 45) rfl (by kernel_rfl) ?_
    simp only [Act.put, List.setIfInBounds_toArray, List.set_cons_zero, List.set_cons_succ]
    refine Segs.WL.val (some 46) (.bool true) W23 rfl (by kernel_rfl) (by kernel_rfl) ?_
    simp only [Act.put, List.setIfInBounds_toArray, List.set_cons_zero, List.set_cons_succ]
    refine Segs.WL.nil ?_
    go_wp2_with fail
    go_ret
    exact ⟨rfl, B26.out.1⟩
  rw [hvm] at vm putm
  have VM := Lib.hid vm
  by_cases hk00 : k0 = 0
  · have DK0 := Lib.hid (show decide (k0 = 0) = true from decide_eq_true hk00)
    clear hl fewn fewm hCS hCM hZ0 hfn hfm w0 w1 h16 g16 vn vm putn putm hvn hvm hk hk' hk00
    have B0 := Lib.hid (Bl.start w)
    have K1 := Lib.hid (by have := Blk.new (w) 25 CS; simpa using this : Blk ((w).alloc (.cells CS 25)) w.heap.size 25 CS)
    have B2 := Lib.hid (B0.out.alloc (.cells CS 25))
    have K3 := Lib.hid (K1.out.alloc (.cells CM 25))
    have K4 := Lib.hid (by have := Blk.new (w.alloc (.cells CS 25)) 25 CM; simpa using this : Blk ((w.alloc (.cells CS 25)).alloc (.cells CM 25)) (w.heap.size + 1) 25 CM)
    have B5 := Lib.hid (B2.out.alloc (.cells CM 25))
    go_enter Tryd.func4, Tryd.ntmps4
    go_upto_region 1 with (fail)
    generalize (w.alloc (.cells CS 25)).alloc (.cells CM 25) = W6 at K3 K4 B5 ⊢
    refine wp_region_lit (Segs.WL.out ?_)
    refine Segs.WL.call (some 16) 8 #[] _ rfl (by kernel_rfl) (by kernel_rfl) (WK.out W6 (LA.out _ B5.out.1)) (fun e W7 hR => ?_)
    obtain ⟨rfl, hb⟩ := hR
    refine ⟨_, rfl, ?_⟩
    simp only [Act.put, List.setIfInBounds_toArray, List.set_cons_zero, List.set_cons_succ]
    have K8 := Lib.hid (K3.out.below hb)
    have K9 := Lib.hid (K4.out.below hb)
    have B10 := Lib.hid (B5.out.call hb)
    clear hb
    refine Segs.WL.val (some 5) (.bool true) W7 rfl (by kernel_rfl) (by kernel_rfl) ?_
    simp only [Act.put, List.setIfInBounds_toArray, List.set_cons_zero, List.set_cons_succ]
    refine Segs.WL.nil ?_
    go_upto_region 2 with (fail)
    refine wp_region_lit (Segs.WL.out ?_)
    refine Segs.WL.val (some 17) (.bool true) W7 rfl (by kernel_rfl) (by kernel_rfl) ?_
    simp only [Act.put, List.setIfInBounds_toArray, List.set_cons_zero, List.set_cons_succ]
    refine Segs.WL.val (some 18) (.bool false) W7 rfl (by kernel_rfl) (by kernel_rfl) ?_
    simp only [Act.put, List.setIfInBounds_toArray, List.set_cons_zero, List.set_cons_succ]
    refine Segs.WL.nil ?_
    go_upto_region 4 with (fail)
    refine wp_region_lit (Segs.WL.out ?_)
    refine Segs.WL.val (some 19) (.agg CS) W7 rfl (by kernel_rfl) (Segs.run_row 25 (.tmp 2) rfl w.heap.size (by kernel_rfl) 25 CS _ K8.out Tryd.underlying25 rfl (info19 (NCS.out.size))) ?_
    simp only [Act.put, List.setIfInBounds_toArray, List.set_cons_zero, List.set_cons_succ]
    refine Segs.WL.call (some 20) 9 #[.agg CS] _ rfl (by kernel_rfl) (by kernel_rfl) (FEWN.out W7) (fun e W11 hR => ?_)
    obtain ⟨rfl, hb⟩ := hR
    refine ⟨_, rfl, ?_⟩
    simp only [Act.put, List.setIfInBounds_toArray, List.set_cons_zero, List.set_cons_succ]
    have K12 := Lib.hid (K8.out.below hb)
    have K13 := Lib.hid (K9.out.below hb)
    have B14 := Lib.hid (B10.out.call hb)
    clear hb
    refine Segs.WL.val (some 21) (.bool true) W11 rfl (by kernel_rfl) (by kernel_rfl) ?_
    simp only [Act.put, List.setIfInBounds_toArray, List.set_cons_zero, List.set_cons_succ]
    refine Segs.WL.val (some 22) (.agg CM) W11 rfl (by kernel_rfl) (Segs.run_row 25 (.tmp 3) rfl (w.heap.size + 1) (by kernel_rfl) 25 CM _ K13.out Tryd.underlying25 rfl (info19 (NCM.out.size))) ?_
    simp only [Act.put, List.setIfInBounds_toArray, List.set_cons_zero, List.set_cons_succ]
    refine Segs.WL.call (some 23) 9 #[.agg CM] _ rfl (by kernel_rfl) (by kernel_rfl) (FEWM.out W11) (fun e W15 hR => ?_)
    obtain ⟨rfl, hb⟩ := hR
    refine ⟨_, rfl, ?_⟩
    simp only [Act.put, List.setIfInBounds_toArray, List.set_cons_zero, List.set_cons_succ]
    have K16 := Lib.hid (K12.out.below hb)
    have K17 := Lib.hid (K13.out.below hb)
    have B18 := Lib.hid (B14.out.call hb)
    clear hb
    refine Segs.WL.val (some 24) (.bool true) W15 rfl (by kernel_rfl) (by kernel_rfl) ?_
    simp only [Act.put, List.setIfInBounds_toArray, List.set_cons_zero, List.set_cons_succ]
    refine Segs.WL.val (some 6) (.bool true) W15 rfl (by kernel_rfl) (by kernel_rfl) ?_
    simp only [Act.put, List.setIfInBounds_toArray, List.set_cons_zero, List.set_cons_succ]
    refine Segs.WL.nil ?_
    go_upto_region 5 with (fail)
    refine wp_region_lit (Segs.WL.out ?_)
    refine Segs.WL.val (some 25) (.bool true) W15 rfl (by kernel_rfl) (by kernel_rfl) ?_
    simp only [Act.put, List.setIfInBounds_toArray, List.set_cons_zero, List.set_cons_succ]
    refine Segs.WL.val (some 26) (.bool false) W15 rfl (by kernel_rfl) (by kernel_rfl) ?_
    simp only [Act.put, List.setIfInBounds_toArray, List.set_cons_zero, List.set_cons_succ]
    refine Segs.WL.val (some 27) (.bool false) W15 rfl (by kernel_rfl) (by kernel_rfl) ?_
    simp only [Act.put, List.setIfInBounds_toArray, List.set_cons_zero, List.set_cons_succ]
    refine Segs.WL.val (some 28) (.agg CS) W15 rfl (by kernel_rfl) (Segs.run_row 25 (.tmp 2) rfl w.heap.size (by kernel_rfl) 25 CS _ K16.out Tryd.underlying25 rfl (info19 (NCS.out.size))) ?_
    simp only [Act.put, List.setIfInBounds_toArray, List.set_cons_zero, List.set_cons_succ]
    refine Segs.WL.call (some 29) 12 #[.agg CS] _ rfl (by kernel_rfl) (by kernel_rfl) (VN.out W15 (LA.out _ B18.out.1).err) (fun e W19 hR => ?_)
    obtain ⟨rfl, hb⟩ := hR
    refine ⟨_, rfl, ?_⟩
    simp only [Act.put, List.setIfInBounds_toArray, List.set_cons_zero, List.set_cons_succ]
    have K20 := Lib.hid (K16.out.below hb)
    have K21 := Lib.hid (K17.out.below hb)
    have B22 := Lib.hid (B18.out.call hb)
    clear hb
    refine Segs.WL.val (some 30) (.bool false) W19 rfl (by kernel_rfl) (by kernel_rfl) ?_
    simp only [Act.put, List.setIfInBounds_toArray, List.set_cons_zero, List.set_cons_succ]
    refine Segs.WL.val (some 31) (.bool false) W19 rfl (by kernel_rfl) (by kernel_rfl) ?_
    simp only [Act.put, List.setIfInBounds_toArray, List.set_cons_zero, List.set_cons_succ]
    refine Segs.WL.val (some 32) (.bool false) W19 rfl (by kernel_rfl) (by kernel_rfl) ?_
    simp only [Act.put, List.setIfInBounds_toArray, List.set_cons_zero, List.set_cons_succ]
    refine Segs.WL.val (some 33) (.agg CM) W19 rfl (by kernel_rfl) (Segs.run_row 25 (.tmp 3) rfl (w.heap.size + 1) (by kernel_rfl) 25 CM _ K21.out Tryd.underlying25 rfl (info19 (NCM.out.size))) ?_
    simp only [Act.put, List.setIfInBounds_toArray, List.set_cons_zero, List.set_cons_succ]
    refine Segs.WL.call (some 34) 12 #[.agg CM] _ rfl (by kernel_rfl) (by kernel_rfl) (VM.out W19 (LA.out _ B22.out.1).err) (fun e W23 hR => ?_)
    obtain ⟨rfl, hb⟩ := hR
    refine ⟨_, rfl, ?_⟩
    simp only [Act.put, List.setIfInBounds_toArray, List.set_cons_zero, List.set_cons_succ]
    have K24 := Lib.hid (K20.out.below hb)
    have K25 := Lib.hid (K21.out.below hb)
    have B26 := Lib.hid (B22.out.call hb)
    clear hb
    refine Segs.WL.val (some 35) (.bool false) W23 rfl (by kernel_rfl) (by kernel_rfl) ?_
    simp only [Act.put, List.setIfInBounds_toArray, List.set_cons_zero, List.set_cons_succ]
    refine Segs.WL.val (some 36) (.bool false) W23 rfl (by kernel_rfl) (by kernel_rfl) ?_
    simp only [Act.put, List.setIfInBounds_toArray, List.set_cons_zero, List.set_cons_succ]
    refine Segs.WL.val (some 37) (.bool false) W23 rfl (by kernel_rfl) (by kernel_rfl) ?_
    simp only [Act.put, List.setIfInBounds_toArray, List.set_cons_zero, List.set_cons_succ]
    refine Segs.WL.val (some 38) (.pointer (some ⟨w.heap.size, 0, none⟩)) W23 rfl (by kernel_rfl) (by kernel_rfl) ?_
    simp only [Act.put, List.setIfInBounds_toArray, List.set_cons_zero, List.set_cons_succ]
    refine Segs.WL.val (some 39) (.int .i64 k0) W23 rfl (by kernel_rfl) (Segs.run_cell 22 (.tmp 38) rfl w.heap.size 0 (by kernel_rfl) _ (isAggKind _) (by rw [K24.out.cell]; exact HK0.out)) ?_
    simp only [Act.put, List.setIfInBounds_toArray, List.set_cons_zero, List.set_cons_succ]
    refine Segs.WL.val (some 40) (.bool (decide (k0 = 0))) W23 rfl (by kernel_rfl) (by kernel_rfl) ?_
    simp only [Act.put, List.setIfInBounds_toArray, List.set_cons_zero, List.set_cons_succ]
    rw [DK0.out]
    refine Segs.WL.val (some 41) (.bool true) W23 rfl (by kernel_rfl) (by kernel_rfl) ?_
    simp only [Act.put, List.setIfInBounds_toArray, List.set_cons_zero, List.set_cons_succ]
    refine Segs.WL.val (some 42) (.bool true) W23 rfl (by kernel_rfl) (by kernel_rfl) ?_
    simp only [Act.put, List.setIfInBounds_toArray, List.set_cons_zero, List.set_cons_succ]
    refine Segs.WL.not (some 43) rfl (by kernel_rfl) ?_
    simp only [Act.put, List.setIfInBounds_toArray, List.set_cons_zero, List.set_cons_succ]
    refine Segs.WL.not (some 44) rfl (by kernel_rfl) ?_
    simp only [Act.put, List.setIfInBounds_toArray, List.set_cons_zero, List.set_cons_succ]
    refine Segs.WL.not (some 45) rfl (by kernel_rfl) ?_
    simp only [Act.put, List.setIfInBounds_toArray, List.set_cons_zero, List.set_cons_succ]
    refine Segs.WL.val (some 46) (.bool true) W23 rfl (by kernel_rfl) (by kernel_rfl) ?_
    simp only [Act.put, List.setIfInBounds_toArray, List.set_cons_zero, List.set_cons_succ]
    refine Segs.WL.nil ?_
    go_wp2_with fail
    go_ret
    exact ⟨rfl, B26.out.1⟩
  have DK0 := Lib.hid (show decide (k0 = 0) = false from decide_eq_false hk00)
  by_cases hk10 : k1 = 0
  · have DK1 := Lib.hid (show decide (k1 = 0) = true from decide_eq_true hk10)
    clear hl fewn fewm hCS hCM hZ0 hfn hfm w0 w1 h16 g16 vn vm putn putm hvn hvm hk hk' hk00 hk10
    have B0 := Lib.hid (Bl.start w)
    have K1 := Lib.hid (by have := Blk.new (w) 25 CS; simpa using this : Blk ((w).alloc (.cells CS 25)) w.heap.size 25 CS)
    have B2 := Lib.hid (B0.out.alloc (.cells CS 25))
    have K3 := Lib.hid (K1.out.alloc (.cells CM 25))
    have K4 := Lib.hid (by have := Blk.new (w.alloc (.cells CS 25)) 25 CM; simpa using this : Blk ((w.alloc (.cells CS 25)).alloc (.cells CM 25)) (w.heap.size + 1) 25 CM)
    have B5 := Lib.hid (B2.out.alloc (.cells CM 25))
    go_enter Tryd.func4, Tryd.ntmps4
    go_upto_region 1 with (fail)
    generalize (w.alloc (.cells CS 25)).alloc (.cells CM 25) = W6 at K3 K4 B5 ⊢
    refine wp_region_lit (Segs.WL.out ?_)
    refine Segs.WL.call (some 16) 8 #[] _ rfl (by kernel_rfl) (by kernel_rfl) (WK.out W6 (LA.out _ B5.out.1)) (fun e W7 hR => ?_)
    obtain ⟨rfl, hb⟩ := hR
    refine ⟨_, rfl, ?_⟩
    simp only [Act.put, List.setIfInBounds_toArray, List.set_cons_zero, List.set_cons_succ]
    have K8 := Lib.hid (K3.out.below hb)
    have K9 := Lib.hid (K4.out.below hb)
    have B10 := Lib.hid (B5.out.call hb)
    clear hb
    refine Segs.WL.val (some 5) (.bool true) W7 rfl (by kernel_rfl) (by kernel_rfl) ?_
    simp only [Act.put, List.setIfInBounds_toArray, List.set_cons_zero, List.set_cons_succ]
    refine Segs.WL.nil ?_
    go_upto_region 2 with (fail)
    refine wp_region_lit (Segs.WL.out ?_)
    refine Segs.WL.val (some 17) (.bool true) W7 rfl (by kernel_rfl) (by kernel_rfl) ?_
    simp only [Act.put, List.setIfInBounds_toArray, List.set_cons_zero, List.set_cons_succ]
    refine Segs.WL.val (some 18) (.bool false) W7 rfl (by kernel_rfl) (by kernel_rfl) ?_
    simp only [Act.put, List.setIfInBounds_toArray, List.set_cons_zero, List.set_cons_succ]
    refine Segs.WL.nil ?_
    go_upto_region 4 with (fail)
    refine wp_region_lit (Segs.WL.out ?_)
    refine Segs.WL.val (some 19) (.agg CS) W7 rfl (by kernel_rfl) (Segs.run_row 25 (.tmp 2) rfl w.heap.size (by kernel_rfl) 25 CS _ K8.out Tryd.underlying25 rfl (info19 (NCS.out.size))) ?_
    simp only [Act.put, List.setIfInBounds_toArray, List.set_cons_zero, List.set_cons_succ]
    refine Segs.WL.call (some 20) 9 #[.agg CS] _ rfl (by kernel_rfl) (by kernel_rfl) (FEWN.out W7) (fun e W11 hR => ?_)
    obtain ⟨rfl, hb⟩ := hR
    refine ⟨_, rfl, ?_⟩
    simp only [Act.put, List.setIfInBounds_toArray, List.set_cons_zero, List.set_cons_succ]
    have K12 := Lib.hid (K8.out.below hb)
    have K13 := Lib.hid (K9.out.below hb)
    have B14 := Lib.hid (B10.out.call hb)
    clear hb
    refine Segs.WL.val (some 21) (.bool true) W11 rfl (by kernel_rfl) (by kernel_rfl) ?_
    simp only [Act.put, List.setIfInBounds_toArray, List.set_cons_zero, List.set_cons_succ]
    refine Segs.WL.val (some 22) (.agg CM) W11 rfl (by kernel_rfl) (Segs.run_row 25 (.tmp 3) rfl (w.heap.size + 1) (by kernel_rfl) 25 CM _ K13.out Tryd.underlying25 rfl (info19 (NCM.out.size))) ?_
    simp only [Act.put, List.setIfInBounds_toArray, List.set_cons_zero, List.set_cons_succ]
    refine Segs.WL.call (some 23) 9 #[.agg CM] _ rfl (by kernel_rfl) (by kernel_rfl) (FEWM.out W11) (fun e W15 hR => ?_)
    obtain ⟨rfl, hb⟩ := hR
    refine ⟨_, rfl, ?_⟩
    simp only [Act.put, List.setIfInBounds_toArray, List.set_cons_zero, List.set_cons_succ]
    have K16 := Lib.hid (K12.out.below hb)
    have K17 := Lib.hid (K13.out.below hb)
    have B18 := Lib.hid (B14.out.call hb)
    clear hb
    refine Segs.WL.val (some 24) (.bool true) W15 rfl (by kernel_rfl) (by kernel_rfl) ?_
    simp only [Act.put, List.setIfInBounds_toArray, List.set_cons_zero, List.set_cons_succ]
    refine Segs.WL.val (some 6) (.bool true) W15 rfl (by kernel_rfl) (by kernel_rfl) ?_
    simp only [Act.put, List.setIfInBounds_toArray, List.set_cons_zero, List.set_cons_succ]
    refine Segs.WL.nil ?_
    go_upto_region 5 with (fail)
    refine wp_region_lit (Segs.WL.out ?_)
    refine Segs.WL.val (some 25) (.bool true) W15 rfl (by kernel_rfl) (by kernel_rfl) ?_
    simp only [Act.put, List.setIfInBounds_toArray, List.set_cons_zero, List.set_cons_succ]
    refine Segs.WL.val (some 26) (.bool false) W15 rfl (by kernel_rfl) (by kernel_rfl) ?_
    simp only [Act.put, List.setIfInBounds_toArray, List.set_cons_zero, List.set_cons_succ]
    refine Segs.WL.val (some 27) (.bool false) W15 rfl (by kernel_rfl) (by kernel_rfl) ?_
    simp only [Act.put, List.setIfInBounds_toArray, List.set_cons_zero, List.set_cons_succ]
    refine Segs.WL.val (some 28) (.agg CS) W15 rfl (by kernel_rfl) (Segs.run_row 25 (.tmp 2) rfl w.heap.size (by kernel_rfl) 25 CS _ K16.out Tryd.underlying25 rfl (info19 (NCS.out.size))) ?_
    simp only [Act.put, List.setIfInBounds_toArray, List.set_cons_zero, List.set_cons_succ]
    refine Segs.WL.call (some 29) 12 #[.agg CS] _ rfl (by kernel_rfl) (by kernel_rfl) (VN.out W15 (LA.out _ B18.out.1).err) (fun e W19 hR => ?_)
    obtain ⟨rfl, hb⟩ := hR
    refine ⟨_, rfl, ?_⟩
    simp only [Act.put, List.setIfInBounds_toArray, List.set_cons_zero, List.set_cons_succ]
    have K20 := Lib.hid (K16.out.below hb)
    have K21 := Lib.hid (K17.out.below hb)
    have B22 := Lib.hid (B18.out.call hb)
    clear hb
    refine Segs.WL.val (some 30) (.bool false) W19 rfl (by kernel_rfl) (by kernel_rfl) ?_
    simp only [Act.put, List.setIfInBounds_toArray, List.set_cons_zero, List.set_cons_succ]
    refine Segs.WL.val (some 31) (.bool false) W19 rfl (by kernel_rfl) (by kernel_rfl) ?_
    simp only [Act.put, List.setIfInBounds_toArray, List.set_cons_zero, List.set_cons_succ]
    refine Segs.WL.val (some 32) (.bool false) W19 rfl (by kernel_rfl) (by kernel_rfl) ?_
    simp only [Act.put, List.setIfInBounds_toArray, List.set_cons_zero, List.set_cons_succ]
    refine Segs.WL.val (some 33) (.agg CM) W19 rfl (by kernel_rfl) (Segs.run_row 25 (.tmp 3) rfl (w.heap.size + 1) (by kernel_rfl) 25 CM _ K21.out Tryd.underlying25 rfl (info19 (NCM.out.size))) ?_
    simp only [Act.put, List.setIfInBounds_toArray, List.set_cons_zero, List.set_cons_succ]
    refine Segs.WL.call (some 34) 12 #[.agg CM] _ rfl (by kernel_rfl) (by kernel_rfl) (VM.out W19 (LA.out _ B22.out.1).err) (fun e W23 hR => ?_)
    obtain ⟨rfl, hb⟩ := hR
    refine ⟨_, rfl, ?_⟩
    simp only [Act.put, List.setIfInBounds_toArray, List.set_cons_zero, List.set_cons_succ]
    have K24 := Lib.hid (K20.out.below hb)
    have K25 := Lib.hid (K21.out.below hb)
    have B26 := Lib.hid (B22.out.call hb)
    clear hb
    refine Segs.WL.val (some 35) (.bool false) W23 rfl (by kernel_rfl) (by kernel_rfl) ?_
    simp only [Act.put, List.setIfInBounds_toArray, List.set_cons_zero, List.set_cons_succ]
    refine Segs.WL.val (some 36) (.bool false) W23 rfl (by kernel_rfl) (by kernel_rfl) ?_
    simp only [Act.put, List.setIfInBounds_toArray, List.set_cons_zero, List.set_cons_succ]
    refine Segs.WL.val (some 37) (.bool false) W23 rfl (by kernel_rfl) (by kernel_rfl) ?_
    simp only [Act.put, List.setIfInBounds_toArray, List.set_cons_zero, List.set_cons_succ]
    refine Segs.WL.val (some 38) (.pointer (some ⟨w.heap.size, 0, none⟩)) W23 rfl (by kernel_rfl) (by kernel_rfl) ?_
    simp only [Act.put, List.setIfInBounds_toArray, List.set_cons_zero, List.set_cons_succ]
    refine Segs.WL.val (some 39) (.int .i64 k0) W23 rfl (by kernel_rfl) (Segs.run_cell 22 (.tmp 38) rfl w.heap.size 0 (by kernel_rfl) _ (isAggKind _) (by rw [K24.out.cell]; exact HK0.out)) ?_
    simp only [Act.put, List.setIfInBounds_toArray, List.set_cons_zero, List.set_cons_succ]
    refine Segs.WL.val (some 40) (.bool (decide (k0 = 0))) W23 rfl (by kernel_rfl) (by kernel_rfl) ?_
    simp only [Act.put, List.setIfInBounds_toArray, List.set_cons_zero, List.set_cons_succ]
    rw [DK0.out]
    refine Segs.WL.val (some 41) (.bool false) W23 rfl (by kernel_rfl) (by kernel_rfl) ?_
    simp only [Act.put, List.setIfInBounds_toArray, List.set_cons_zero, List.set_cons_succ]
    refine Segs.WL.val (some 42) (.bool false) W23 rfl (by kernel_rfl) (by kernel_rfl) ?_
    simp only [Act.put, List.setIfInBounds_toArray, List.set_cons_zero, List.set_cons_succ]
    refine Segs.WL.val (some 43) (.pointer (some ⟨(w.heap.size + 1), 0, none⟩)) W23 rfl (by kernel_rfl) (by kernel_rfl) ?_
    simp only [Act.put, List.setIfInBounds_toArray, List.set_cons_zero, List.set_cons_succ]
    refine Segs.WL.val (some 44) (.int .i64 k1) W23 rfl (by kernel_rfl) (Segs.run_cell 22 (.tmp 43) rfl (w.heap.size + 1) 0 (by kernel_rfl) _ (isAggKind _) (by rw [K25.out.cell]; exact HK1.out)) ?_
    simp only [Act.put, List.setIfInBounds_toArray, List.set_cons_zero, List.set_cons_succ]
    refine Segs.WL.val (some 45) (.bool (decide (k1 = 0))) W23 rfl (by kernel_rfl) (by kernel_rfl) ?_
    simp only [Act.put, List.setIfInBounds_toArray, List.set_cons_zero, List.set_cons_succ]
    rw [DK1.out]
    refine Segs.WL.val (some 46) (.bool true) W23 rfl (by kernel_rfl) (by kernel_rfl) ?_
    simp only [Act.put, List.setIfInBounds_toArray, List.set_cons_zero, List.set_cons_succ]
    refine Segs.WL.nil ?_
    go_wp2_with fail
    go_ret
    exact ⟨rfl, B26.out.1⟩
  have DK1 := Lib.hid (show decide (k1 = 0) = false from decide_eq_false hk10)
  simp only [if_true] at putn putm
  obtain ⟨_, bz, _⟩ := back_read a0 hvn h16
  obtain ⟨_, bz', _⟩ := back_read a1 hvm g16
  have ref := fun W h => ref_any (bytesB a0) W (by omega) h
  have reft := fun W h => ref_any (bytesB a1) W (by omega) h
  have hash := fun W => hash_any (refB (bytesB a0)) W
  have inl := fun W h => inline_any (refB (bytesB a0)) W h (fun h => get_any _ (by omega))
  have col := fun W h => collide_nd (bytesB a0) (bytesB a1) W h (by omega) (by omega)
  have ofs := fun b W h => of_one (bytesB a0) b W h (by omega)
  have tell := refs_tell hvn hvm h16 g16
  have ins := in_small hvn h16 (by rw [← hk]; exact hk00)
  unfold Inl at inl
  by_cases hs : (bytesB a0).size < 32
  · have HLT := Lib.hid (show decide (((bytesB a0).size : Int) < (32 : Int)) = true by simp; omega)
    rw [ref_small hs, hash_small hs] at hash
    rw [ref_small hs, ins hs] at inl
    have hH : e0 = e0 := rfl
    obtain ⟨H, hH⟩ : ∃ z, z = e0 := ⟨_, rfl⟩
    simp only [Option.getD_none, Option.getD_some, Option.isSome_none, Option.isSome_some] at hash inl
    rw [← hCS] at inl
    rw [← hH] at hash
    have hX := hZ0
    rw [← ref_small hs] at hash inl
    by_cases hne : a0 = a1
    · have hae : refB (bytesB a0) = refB (bytesB a1) := by rw [hne]
      have HNE := Lib.hid (show decide (a0 = a1) = true from decide_eq_true hne)
      have HAE := Lib.hid (show decide (refB (bytesB a0) = refB (bytesB a1)) = true from decide_eq_true hae)
      obtain ⟨A, hA⟩ : ∃ z, z = refB (bytesB a0) := ⟨_, rfl⟩
      obtain ⟨AT, hAT⟩ : ∃ z, z = refB (bytesB a1) := ⟨_, rfl⟩
      obtain ⟨S, hS⟩ : ∃ z, z = bytesB a0 := ⟨_, rfl⟩
      obtain ⟨T, hT⟩ : ∃ z, z = bytesB a1 := ⟨_, rfl⟩
      rw [← hA] at ref hash inl HAE
      rw [← hAT] at reft HAE
      rw [← hS] at putn ref col HLT ofs
      rw [← hT] at putm reft col
      have PN := Lib.hid putn
      have PM := Lib.hid putm
      have REF := Lib.hid ref
      have REFT := Lib.hid reft
      have HASH := Lib.hid hash
      have INL := Lib.hid inl
      have OF := Lib.hid ofs
      have COL := Lib.hid col
      clear hl fewn fewm hCS hCM hZ0 hfn hfm w0 w1 vn vm putn putm hvn hvm hk hk' hk00 hk10 ref reft hash inl col ofs tell ins bz bz' hs hS hT hA hAT hne hH hX hae
      have B0 := Lib.hid (Bl.start w)
      have K1 := Lib.hid (by have := Blk.new (w) 25 CS; simpa using this : Blk ((w).alloc (.cells CS 25)) w.heap.size 25 CS)
      have B2 := Lib.hid (B0.out.alloc (.cells CS 25))
      have K3 := Lib.hid (K1.out.alloc (.cells CM 25))
      have K4 := Lib.hid (by have := Blk.new (w.alloc (.cells CS 25)) 25 CM; simpa using this : Blk ((w.alloc (.cells CS 25)).alloc (.cells CM 25)) (w.heap.size + 1) 25 CM)
      have B5 := Lib.hid (B2.out.alloc (.cells CM 25))
      go_enter Tryd.func4, Tryd.ntmps4
      go_upto_region 1 with (fail)
      generalize (w.alloc (.cells CS 25)).alloc (.cells CM 25) = W6 at K3 K4 B5 ⊢
      refine wp_region_lit (Segs.WL.out ?_)
      refine Segs.WL.call (some 16) 8 #[] _ rfl (by kernel_rfl) (by kernel_rfl) (WK.out W6 (LA.out _ B5.out.1)) (fun e W7 hR => ?_)
      obtain ⟨rfl, hb⟩ := hR
      refine ⟨_, rfl, ?_⟩
      simp only [Act.put, List.setIfInBounds_toArray, List.set_cons_zero, List.set_cons_succ]
      have K8 := Lib.hid (K3.out.below hb)
      have K9 := Lib.hid (K4.out.below hb)
      have B10 := Lib.hid (B5.out.call hb)
      clear hb
      refine Segs.WL.val (some 5) (.bool true) W7 rfl (by kernel_rfl) (by kernel_rfl) ?_
      simp only [Act.put, List.setIfInBounds_toArray, List.set_cons_zero, List.set_cons_succ]
      refine Segs.WL.nil ?_
      go_upto_region 2 with (fail)
      refine wp_region_lit (Segs.WL.out ?_)
      refine Segs.WL.val (some 17) (.bool true) W7 rfl (by kernel_rfl) (by kernel_rfl) ?_
      simp only [Act.put, List.setIfInBounds_toArray, List.set_cons_zero, List.set_cons_succ]
      refine Segs.WL.val (some 18) (.bool false) W7 rfl (by kernel_rfl) (by kernel_rfl) ?_
      simp only [Act.put, List.setIfInBounds_toArray, List.set_cons_zero, List.set_cons_succ]
      refine Segs.WL.nil ?_
      go_upto_region 4 with (fail)
      refine wp_region_lit (Segs.WL.out ?_)
      refine Segs.WL.val (some 19) (.agg CS) W7 rfl (by kernel_rfl) (Segs.run_row 25 (.tmp 2) rfl w.heap.size (by kernel_rfl) 25 CS _ K8.out Tryd.underlying25 rfl (info19 (NCS.out.size))) ?_
      simp only [Act.put, List.setIfInBounds_toArray, List.set_cons_zero, List.set_cons_succ]
      refine Segs.WL.call (some 20) 9 #[.agg CS] _ rfl (by kernel_rfl) (by kernel_rfl) (FEWN.out W7) (fun e W11 hR => ?_)
      obtain ⟨rfl, hb⟩ := hR
      refine ⟨_, rfl, ?_⟩
      simp only [Act.put, List.setIfInBounds_toArray, List.set_cons_zero, List.set_cons_succ]
      have K12 := Lib.hid (K8.out.below hb)
      have K13 := Lib.hid (K9.out.below hb)
      have B14 := Lib.hid (B10.out.call hb)
      clear hb
      refine Segs.WL.val (some 21) (.bool true) W11 rfl (by kernel_rfl) (by kernel_rfl) ?_
      simp only [Act.put, List.setIfInBounds_toArray, List.set_cons_zero, List.set_cons_succ]
      refine Segs.WL.val (some 22) (.agg CM) W11 rfl (by kernel_rfl) (Segs.run_row 25 (.tmp 3) rfl (w.heap.size + 1) (by kernel_rfl) 25 CM _ K13.out Tryd.underlying25 rfl (info19 (NCM.out.size))) ?_
      simp only [Act.put, List.setIfInBounds_toArray, List.set_cons_zero, List.set_cons_succ]
      refine Segs.WL.call (some 23) 9 #[.agg CM] _ rfl (by kernel_rfl) (by kernel_rfl) (FEWM.out W11) (fun e W15 hR => ?_)
      obtain ⟨rfl, hb⟩ := hR
      refine ⟨_, rfl, ?_⟩
      simp only [Act.put, List.setIfInBounds_toArray, List.set_cons_zero, List.set_cons_succ]
      have K16 := Lib.hid (K12.out.below hb)
      have K17 := Lib.hid (K13.out.below hb)
      have B18 := Lib.hid (B14.out.call hb)
      clear hb
      refine Segs.WL.val (some 24) (.bool true) W15 rfl (by kernel_rfl) (by kernel_rfl) ?_
      simp only [Act.put, List.setIfInBounds_toArray, List.set_cons_zero, List.set_cons_succ]
      refine Segs.WL.val (some 6) (.bool true) W15 rfl (by kernel_rfl) (by kernel_rfl) ?_
      simp only [Act.put, List.setIfInBounds_toArray, List.set_cons_zero, List.set_cons_succ]
      refine Segs.WL.nil ?_
      go_upto_region 5 with (fail)
      refine wp_region_lit (Segs.WL.out ?_)
      refine Segs.WL.val (some 25) (.bool true) W15 rfl (by kernel_rfl) (by kernel_rfl) ?_
      simp only [Act.put, List.setIfInBounds_toArray, List.set_cons_zero, List.set_cons_succ]
      refine Segs.WL.val (some 26) (.bool false) W15 rfl (by kernel_rfl) (by kernel_rfl) ?_
      simp only [Act.put, List.setIfInBounds_toArray, List.set_cons_zero, List.set_cons_succ]
      refine Segs.WL.val (some 27) (.bool false) W15 rfl (by kernel_rfl) (by kernel_rfl) ?_
      simp only [Act.put, List.setIfInBounds_toArray, List.set_cons_zero, List.set_cons_succ]
      refine Segs.WL.val (some 28) (.agg CS) W15 rfl (by kernel_rfl) (Segs.run_row 25 (.tmp 2) rfl w.heap.size (by kernel_rfl) 25 CS _ K16.out Tryd.underlying25 rfl (info19 (NCS.out.size))) ?_
      simp only [Act.put, List.setIfInBounds_toArray, List.set_cons_zero, List.set_cons_succ]
      refine Segs.WL.call (some 29) 12 #[.agg CS] _ rfl (by kernel_rfl) (by kernel_rfl) (VN.out W15 (LA.out _ B18.out.1).err) (fun e W19 hR => ?_)
      obtain ⟨rfl, hb⟩ := hR
      refine ⟨_, rfl, ?_⟩
      simp only [Act.put, List.setIfInBounds_toArray, List.set_cons_zero, List.set_cons_succ]
      have K20 := Lib.hid (K16.out.below hb)
      have K21 := Lib.hid (K17.out.below hb)
      have B22 := Lib.hid (B18.out.call hb)
      clear hb
      refine Segs.WL.val (some 30) (.bool false) W19 rfl (by kernel_rfl) (by kernel_rfl) ?_
      simp only [Act.put, List.setIfInBounds_toArray, List.set_cons_zero, List.set_cons_succ]
      refine Segs.WL.val (some 31) (.bool false) W19 rfl (by kernel_rfl) (by kernel_rfl) ?_
      simp only [Act.put, List.setIfInBounds_toArray, List.set_cons_zero, List.set_cons_succ]
      refine Segs.WL.val (some 32) (.bool false) W19 rfl (by kernel_rfl) (by kernel_rfl) ?_
      simp only [Act.put, List.setIfInBounds_toArray, List.set_cons_zero, List.set_cons_succ]
      refine Segs.WL.val (some 33) (.agg CM) W19 rfl (by kernel_rfl) (Segs.run_row 25 (.tmp 3) rfl (w.heap.size + 1) (by kernel_rfl) 25 CM _ K21.out Tryd.underlying25 rfl (info19 (NCM.out.size))) ?_
      simp only [Act.put, List.setIfInBounds_toArray, List.set_cons_zero, List.set_cons_succ]
      refine Segs.WL.call (some 34) 12 #[.agg CM] _ rfl (by kernel_rfl) (by kernel_rfl) (VM.out W19 (LA.out _ B22.out.1).err) (fun e W23 hR => ?_)
      obtain ⟨rfl, hb⟩ := hR
      refine ⟨_, rfl, ?_⟩
      simp only [Act.put, List.setIfInBounds_toArray, List.set_cons_zero, List.set_cons_succ]
      have K24 := Lib.hid (K20.out.below hb)
      have K25 := Lib.hid (K21.out.below hb)
      have B26 := Lib.hid (B22.out.call hb)
      clear hb
      refine Segs.WL.val (some 35) (.bool false) W23 rfl (by kernel_rfl) (by kernel_rfl) ?_
      simp only [Act.put, List.setIfInBounds_toArray, List.set_cons_zero, List.set_cons_succ]
      refine Segs.WL.val (some 36) (.bool false) W23 rfl (by kernel_rfl) (by kernel_rfl) ?_
      simp only [Act.put, List.setIfInBounds_toArray, List.set_cons_zero, List.set_cons_succ]
      refine Segs.WL.val (some 37) (.bool false) W23 rfl (by kernel_rfl) (by kernel_rfl) ?_
      simp only [Act.put, List.setIfInBounds_toArray, List.set_cons_zero, List.set_cons_succ]
      refine Segs.WL.val (some 38) (.pointer (some ⟨w.heap.size, 0, none⟩)) W23 rfl (by kernel_rfl) (by kernel_rfl) ?_
      simp only [Act.put, List.setIfInBounds_toArray, List.set_cons_zero, List.set_cons_succ]
      refine Segs.WL.val (some 39) (.int .i64 k0) W23 rfl (by kernel_rfl) (Segs.run_cell 22 (.tmp 38) rfl w.heap.size 0 (by kernel_rfl) _ (isAggKind _) (by rw [K24.out.cell]; exact HK0.out)) ?_
      simp only [Act.put, List.setIfInBounds_toArray, List.set_cons_zero, List.set_cons_succ]
      refine Segs.WL.val (some 40) (.bool (decide (k0 = 0))) W23 rfl (by kernel_rfl) (by kernel_rfl) ?_
      simp only [Act.put, List.setIfInBounds_toArray, List.set_cons_zero, List.set_cons_succ]
      rw [DK0.out]
      refine Segs.WL.val (some 41) (.bool false) W23 rfl (by kernel_rfl) (by kernel_rfl) ?_
      simp only [Act.put, List.setIfInBounds_toArray, List.set_cons_zero, List.set_cons_succ]
      refine Segs.WL.val (some 42) (.bool false) W23 rfl (by kernel_rfl) (by kernel_rfl) ?_
      simp only [Act.put, List.setIfInBounds_toArray, List.set_cons_zero, List.set_cons_succ]
      refine Segs.WL.val (some 43) (.pointer (some ⟨(w.heap.size + 1), 0, none⟩)) W23 rfl (by kernel_rfl) (by kernel_rfl) ?_
      simp only [Act.put, List.setIfInBounds_toArray, List.set_cons_zero, List.set_cons_succ]
      refine Segs.WL.val (some 44) (.int .i64 k1) W23 rfl (by kernel_rfl) (Segs.run_cell 22 (.tmp 43) rfl (w.heap.size + 1) 0 (by kernel_rfl) _ (isAggKind _) (by rw [K25.out.cell]; exact HK1.out)) ?_
      simp only [Act.put, List.setIfInBounds_toArray, List.set_cons_zero, List.set_cons_succ]
      refine Segs.WL.val (some 45) (.bool (decide (k1 = 0))) W23 rfl (by kernel_rfl) (by kernel_rfl) ?_
      simp only [Act.put, List.setIfInBounds_toArray, List.set_cons_zero, List.set_cons_succ]
      rw [DK1.out]
      refine Segs.WL.val (some 46) (.bool false) W23 rfl (by kernel_rfl) (by kernel_rfl) ?_
      simp only [Act.put, List.setIfInBounds_toArray, List.set_cons_zero, List.set_cons_succ]
      refine Segs.WL.nil ?_
      go_upto_region 7 with (fail)
      refine wp_region_lit (Segs.WL.out ?_)
      refine Segs.WL.val (some 49) (.agg CS) W23 rfl (by kernel_rfl) (Segs.run_row 25 (.tmp 2) rfl w.heap.size (by kernel_rfl) 25 CS _ K24.out Tryd.underlying25 rfl (info19 (NCS.out.size))) ?_
      simp only [Act.put, List.setIfInBounds_toArray, List.set_cons_zero, List.set_cons_succ]
      refine Segs.WL.call (some 50) 10 #[.agg CS] _ rfl (by kernel_rfl) (by kernel_rfl) (PN.out W23 (LA.out _ B26.out.1).err) (fun e W27 hR => ?_)
      obtain ⟨rfl, hb⟩ := hR
      refine ⟨_, rfl, ?_⟩
      simp only [Act.put, List.setIfInBounds_toArray, List.set_cons_zero, List.set_cons_succ]
      have K28 := Lib.hid (K24.out.below hb)
      have K29 := Lib.hid (K25.out.below hb)
      have B30 := Lib.hid (B26.out.call hb)
      clear hb
      refine Segs.WL.val (some 48) (.tuple #[.string S, .int .i64 0]) W27 rfl (by kernel_rfl) (by kernel_rfl) ?_
      simp only [Act.put, List.setIfInBounds_toArray, List.set_cons_zero, List.set_cons_succ]
      refine Segs.WL.val (some 51) (.string S) W27 rfl (by kernel_rfl) (by kernel_rfl) ?_
      simp only [Act.put, List.setIfInBounds_toArray, List.set_cons_zero, List.set_cons_succ]
      refine Segs.WL.val (some 52) (.int .i64 0) W27 rfl (by kernel_rfl) (by kernel_rfl) ?_
      simp only [Act.put, List.setIfInBounds_toArray, List.set_cons_zero, List.set_cons_succ]
      refine Segs.WL.val (some 7) (.string S) W27 rfl (by kernel_rfl) (by kernel_rfl) ?_
      simp only [Act.put, List.setIfInBounds_toArray, List.set_cons_zero, List.set_cons_succ]
      refine Segs.WL.val (some 8) (.int .i64 0) W27 rfl (by kernel_rfl) (by kernel_rfl) ?_
      simp only [Act.put, List.setIfInBounds_toArray, List.set_cons_zero, List.set_cons_succ]
      refine Segs.WL.nil ?_
      go_upto_region 8 with (fail)
      refine wp_region_lit (Segs.WL.out ?_)
      refine Segs.WL.val (some 54) (.agg CM) W27 rfl (by kernel_rfl) (Segs.run_row 25 (.tmp 3) rfl (w.heap.size + 1) (by kernel_rfl) 25 CM _ K29.out Tryd.underlying25 rfl (info19 (NCM.out.size))) ?_
      simp only [Act.put, List.setIfInBounds_toArray, List.set_cons_zero, List.set_cons_succ]
      refine Segs.WL.call (some 55) 10 #[.agg CM] _ rfl (by kernel_rfl) (by kernel_rfl) (PM.out W27 (LA.out _ B30.out.1).err) (fun e W31 hR => ?_)
      obtain ⟨rfl, hb⟩ := hR
      refine ⟨_, rfl, ?_⟩
      simp only [Act.put, List.setIfInBounds_toArray, List.set_cons_zero, List.set_cons_succ]
      have K32 := Lib.hid (K28.out.below hb)
      have K33 := Lib.hid (K29.out.below hb)
      have B34 := Lib.hid (B30.out.call hb)
      clear hb
      refine Segs.WL.val (some 53) (.tuple #[.string T, .int .i64 0]) W31 rfl (by kernel_rfl) (by kernel_rfl) ?_
      simp only [Act.put, List.setIfInBounds_toArray, List.set_cons_zero, List.set_cons_succ]
      refine Segs.WL.val (some 56) (.string T) W31 rfl (by kernel_rfl) (by kernel_rfl) ?_
      simp only [Act.put, List.setIfInBounds_toArray, List.set_cons_zero, List.set_cons_succ]
      refine Segs.WL.val (some 57) (.int .i64 0) W31 rfl (by kernel_rfl) (by kernel_rfl) ?_
      simp only [Act.put, List.setIfInBounds_toArray, List.set_cons_zero, List.set_cons_succ]
      refine Segs.WL.val (some 9) (.string T) W31 rfl (by kernel_rfl) (by kernel_rfl) ?_
      simp only [Act.put, List.setIfInBounds_toArray, List.set_cons_zero, List.set_cons_succ]
      refine Segs.WL.val (some 10) (.int .i64 0) W31 rfl (by kernel_rfl) (by kernel_rfl) ?_
      simp only [Act.put, List.setIfInBounds_toArray, List.set_cons_zero, List.set_cons_succ]
      refine Segs.WL.nil ?_
      go_upto_region 9 with (fail)
      refine wp_region_lit (Segs.WL.out ?_)
      refine Segs.WL.val (some 58) (.string S) W31 rfl (by kernel_rfl) (by kernel_rfl) ?_
      simp only [Act.put, List.setIfInBounds_toArray, List.set_cons_zero, List.set_cons_succ]
      refine Segs.WL.call (some 59) 13 #[.string S] _ rfl (by kernel_rfl) (by kernel_rfl) (REF.out W31 (LA.out _ B34.out.1).sha) (fun e W35 hR => ?_)
      obtain ⟨rfl, hb⟩ := hR
      refine ⟨_, rfl, ?_⟩
      simp only [Act.put, List.setIfInBounds_toArray, List.set_cons_zero, List.set_cons_succ]
      have K36 := Lib.hid (K32.out.below hb)
      have K37 := Lib.hid (K33.out.below hb)
      have B38 := Lib.hid (B34.out.call hb)
      clear hb
      refine Segs.WL.val (some 11) (.string A) W35 rfl (by kernel_rfl) (by kernel_rfl) ?_
      simp only [Act.put, List.setIfInBounds_toArray, List.set_cons_zero, List.set_cons_succ]
      refine Segs.WL.nil ?_
      go_upto_region 10 with (fail)
      refine wp_region_lit (Segs.WL.out ?_)
      refine Segs.WL.val (some 61) (.string A) W35 rfl (by kernel_rfl) (by kernel_rfl) ?_
      simp only [Act.put, List.setIfInBounds_toArray, List.set_cons_zero, List.set_cons_succ]
      refine Segs.WL.call (some 62) 14 #[.string A] _ rfl (by kernel_rfl) (by kernel_rfl) (HASH.out W35) (fun e W39 hR => ?_)
      obtain ⟨rfl, hb⟩ := hR
      refine ⟨_, rfl, ?_⟩
      simp only [Act.put, List.setIfInBounds_toArray, List.set_cons_zero, List.set_cons_succ]
      have K40 := Lib.hid (K36.out.below hb)
      have K41 := Lib.hid (K37.out.below hb)
      have B42 := Lib.hid (B38.out.call hb)
      clear hb
      refine Segs.WL.val (some 60) (.tuple #[.string H, .bool false]) W39 rfl (by kernel_rfl) (by kernel_rfl) ?_
      simp only [Act.put, List.setIfInBounds_toArray, List.set_cons_zero, List.set_cons_succ]
      refine Segs.WL.val (some 63) (.string H) W39 rfl (by kernel_rfl) (by kernel_rfl) ?_
      simp only [Act.put, List.setIfInBounds_toArray, List.set_cons_zero, List.set_cons_succ]
      refine Segs.WL.val (some 64) (.bool false) W39 rfl (by kernel_rfl) (by kernel_rfl) ?_
      simp only [Act.put, List.setIfInBounds_toArray, List.set_cons_zero, List.set_cons_succ]
      refine Segs.WL.val (some 12) (.string H) W39 rfl (by kernel_rfl) (by kernel_rfl) ?_
      simp only [Act.put, List.setIfInBounds_toArray, List.set_cons_zero, List.set_cons_succ]
      refine Segs.WL.val (some 13) (.bool false) W39 rfl (by kernel_rfl) (by kernel_rfl) ?_
      simp only [Act.put, List.setIfInBounds_toArray, List.set_cons_zero, List.set_cons_succ]
      refine Segs.WL.nil ?_
      go_upto_region 11 with (fail)
      refine wp_region_lit (Segs.WL.out ?_)
      refine Segs.WL.val (some 66) (.string A) W39 rfl (by kernel_rfl) (by kernel_rfl) ?_
      simp only [Act.put, List.setIfInBounds_toArray, List.set_cons_zero, List.set_cons_succ]
      refine Segs.WL.call (some 67) 15 #[.string A] _ rfl (by kernel_rfl) (by kernel_rfl) (INL.out W39 (LA.out _ B42.out.1).err) (fun e W43 hR => ?_)
      obtain ⟨rfl, hb⟩ := hR
      refine ⟨_, rfl, ?_⟩
      simp only [Act.put, List.setIfInBounds_toArray, List.set_cons_zero, List.set_cons_succ]
      have K44 := Lib.hid (K40.out.below hb)
      have K45 := Lib.hid (K41.out.below hb)
      have B46 := Lib.hid (B42.out.call hb)
      clear hb
      refine Segs.WL.val (some 65) (.tuple #[.agg CS, .bool true]) W43 rfl (by kernel_rfl) (by kernel_rfl) ?_
      simp only [Act.put, List.setIfInBounds_toArray, List.set_cons_zero, List.set_cons_succ]
      refine Segs.WL.val (some 68) (.agg CS) W43 rfl (by kernel_rfl) (by kernel_rfl) ?_
      simp only [Act.put, List.setIfInBounds_toArray, List.set_cons_zero, List.set_cons_succ]
      refine Segs.WL.val (some 69) (.bool true) W43 rfl (by kernel_rfl) (by kernel_rfl) ?_
      simp only [Act.put, List.setIfInBounds_toArray, List.set_cons_zero, List.set_cons_succ]
      obtain ⟨bx, hbx⟩ : ∃ n, n = W43.heap.size := ⟨_, rfl⟩
      have K48 := Lib.hid (K44.out.alloc (.cells Z0 25))
      have ne49 : w.heap.size ≠ bx := by have := K44.out.lt; omega
      have K50 := Lib.hid (K45.out.alloc (.cells Z0 25))
      have ne51 : (w.heap.size + 1) ≠ bx := by have := K45.out.lt; omega
      have K52 := Lib.hid (by have := Blk.new W43 25 Z0; rw [← hbx] at this; exact this : Blk (W43.alloc (.cells Z0 25)) bx 25 Z0)
      have B53 := Lib.hid (B46.out.alloc (.cells Z0 25))
      have ge54 : w.heap.size ≤ bx := by rw [hbx]; exact B46.out.2
      refine Segs.WL.val (some 14) (.pointer (some ⟨bx, 0, none⟩)) (W43.alloc (.cells Z0 25)) rfl (by kernel_rfl) (by rw [hbx]; exact Segs.run_allocOf rfl Z0 (al_nd0 HZ.out)) ?_
      simp only [Act.put, List.setIfInBounds_toArray, List.set_cons_zero, List.set_cons_succ]
      generalize W43.alloc (.cells Z0 25) = W47 at K48 K50 K52 B53 ⊢
      clear hbx
      have K56 := Lib.hid (K48.out.rowOther (g' := bx) (cs := CS) ne49)
      have K57 := Lib.hid (K50.out.rowOther (g' := bx) (cs := CS) ne51)
      have K58 := Lib.hid (K52.out.row (cs := CS))
      have B59 := Lib.hid (Bl.setRow B53.out (g := bx) ge54 CS)
      refine Segs.WL.skip (W47.setRow bx CS) rfl (by kernel_rfl) (Segs.run_storeRow rfl bx CS (by kernel_rfl) (by kernel_rfl) 25 Z0 K52.out (info19 NCS.out.size) (NZ.out.size.trans NCS.out.size.symm) NCS.out.one) ?_
      generalize W47.setRow bx CS = W55 at K56 K57 K58 B59 ⊢
      refine Segs.WL.val (some 15) (.bool true) W55 rfl (by kernel_rfl) (by kernel_rfl) ?_
      simp only [Act.put, List.setIfInBounds_toArray, List.set_cons_zero, List.set_cons_succ]
      refine Segs.WL.nil ?_
      go_upto_region 12 with (fail)
      refine wp_region_lit (Segs.WL.out ?_)
      refine Segs.WL.val (some 70) (.bool false) W55 rfl (by kernel_rfl) (by kernel_rfl) ?_
      simp only [Act.put, List.setIfInBounds_toArray, List.set_cons_zero, List.set_cons_succ]
      refine Segs.WL.val (some 71) (.bool true) W55 rfl (by kernel_rfl) (by kernel_rfl) ?_
      simp only [Act.put, List.setIfInBounds_toArray, List.set_cons_zero, List.set_cons_succ]
      refine Segs.WL.val (some 72) (.bool false) W55 rfl (by kernel_rfl) (by kernel_rfl) ?_
      simp only [Act.put, List.setIfInBounds_toArray, List.set_cons_zero, List.set_cons_succ]
      refine Segs.WL.val (some 73) (.bool false) W55 rfl (by kernel_rfl) (by kernel_rfl) ?_
      simp only [Act.put, List.setIfInBounds_toArray, List.set_cons_zero, List.set_cons_succ]
      refine Segs.WL.val (some 74) (.bool true) W55 rfl (by kernel_rfl) (by kernel_rfl) ?_
      simp only [Act.put, List.setIfInBounds_toArray, List.set_cons_zero, List.set_cons_succ]
      refine Segs.WL.val (some 75) (.bool true) W55 rfl (by kernel_rfl) (by kernel_rfl) ?_
      simp only [Act.put, List.setIfInBounds_toArray, List.set_cons_zero, List.set_cons_succ]
      refine Segs.WL.val (some 76) (.agg CS) W55 rfl (by kernel_rfl) (Segs.run_row 25 (.tmp 14) rfl bx (by kernel_rfl) 25 CS _ K58.out Tryd.underlying25 rfl (info19 (NCS.out.size))) ?_
      simp only [Act.put, List.setIfInBounds_toArray, List.set_cons_zero, List.set_cons_succ]
      refine Segs.WL.val (some 77) (.agg CS) W55 rfl (by kernel_rfl) (Segs.run_row 25 (.tmp 2) rfl w.heap.size (by kernel_rfl) 25 CS _ K56.out Tryd.underlying25 rfl (info19 (NCS.out.size))) ?_
      simp only [Act.put, List.setIfInBounds_toArray, List.set_cons_zero, List.set_cons_succ]
      refine Segs.WL.val (some 78) (.bool !true) W55 rfl (by kernel_rfl) (run_neq_of rfl CS CS HCS.out HCS.out (by kernel_rfl) (by kernel_rfl) h16 h16 true (decide_eq_true rfl)) ?_
      simp only [Act.put, List.setIfInBounds_toArray, List.set_cons_zero, List.set_cons_succ]
      refine Segs.WL.val (some 79) (.bool false) W55 rfl (by kernel_rfl) (by kernel_rfl) ?_
      simp only [Act.put, List.setIfInBounds_toArray, List.set_cons_zero, List.set_cons_succ]
      refine Segs.WL.val (some 80) (.bool false) W55 rfl (by kernel_rfl) (by kernel_rfl) ?_
      simp only [Act.put, List.setIfInBounds_toArray, List.set_cons_zero, List.set_cons_succ]
      refine Segs.WL.val (some 81) (.bool false) W55 rfl (by kernel_rfl) (by kernel_rfl) ?_
      simp only [Act.put, List.setIfInBounds_toArray, List.set_cons_zero, List.set_cons_succ]
      refine Segs.WL.val (some 82) (.bool false) W55 rfl (by kernel_rfl) (by kernel_rfl) ?_
      simp only [Act.put, List.setIfInBounds_toArray, List.set_cons_zero, List.set_cons_succ]
      refine Segs.WL.val (some 83) (.bool false) W55 rfl (by kernel_rfl) (by kernel_rfl) ?_
      simp only [Act.put, List.setIfInBounds_toArray, List.set_cons_zero, List.set_cons_succ]
      refine Segs.WL.not (some 84) rfl (by kernel_rfl) ?_
      simp only [Act.put, List.setIfInBounds_toArray, List.set_cons_zero, List.set_cons_succ]
      refine Segs.WL.not (some 85) rfl (by kernel_rfl) ?_
      simp only [Act.put, List.setIfInBounds_toArray, List.set_cons_zero, List.set_cons_succ]
      refine Segs.WL.not (some 86) rfl (by kernel_rfl) ?_
      simp only [Act.put, List.setIfInBounds_toArray, List.set_cons_zero, List.set_cons_succ]
      refine Segs.WL.not (some 87) rfl (by kernel_rfl) ?_
      simp only [Act.put, List.setIfInBounds_toArray, List.set_cons_zero, List.set_cons_succ]
      refine Segs.WL.not (some 88) rfl (by kernel_rfl) ?_
      simp only [Act.put, List.setIfInBounds_toArray, List.set_cons_zero, List.set_cons_succ]
      refine Segs.WL.val (some 89) (.bool false) W55 rfl (by kernel_rfl) (by kernel_rfl) ?_
      simp only [Act.put, List.setIfInBounds_toArray, List.set_cons_zero, List.set_cons_succ]
      refine Segs.WL.val (some 90) (.bool false) W55 rfl (by kernel_rfl) (by kernel_rfl) ?_
      simp only [Act.put, List.setIfInBounds_toArray, List.set_cons_zero, List.set_cons_succ]
      refine Segs.WL.val (some 91) (.bool false) W55 rfl (by kernel_rfl) (by kernel_rfl) ?_
      simp only [Act.put, List.setIfInBounds_toArray, List.set_cons_zero, List.set_cons_succ]
      refine Segs.WL.val (some 92) (.bool true) W55 rfl (by kernel_rfl) (by kernel_rfl) ?_
      simp only [Act.put, List.setIfInBounds_toArray, List.set_cons_zero, List.set_cons_succ]
      refine Segs.WL.val (some 93) (.string S) W55 rfl (by kernel_rfl) (by kernel_rfl) ?_
      simp only [Act.put, List.setIfInBounds_toArray, List.set_cons_zero, List.set_cons_succ]
      refine Segs.WL.val (some 94) (.int .i64 ((S.size : Int))) W55 rfl (by kernel_rfl) (by kernel_rfl) ?_
      simp only [Act.put, List.setIfInBounds_toArray, List.set_cons_zero, List.set_cons_succ]
      refine Segs.WL.val (some 95) (.bool (decide ((S.size : Int) < (32 : Int)))) W55 rfl (by kernel_rfl) (by kernel_rfl) ?_
      simp only [Act.put, List.setIfInBounds_toArray, List.set_cons_zero, List.set_cons_succ]
      rw [HLT.out]
      refine Segs.WL.val (some 96) (.bool false) W55 rfl (by kernel_rfl) (by kernel_rfl) ?_
      simp only [Act.put, List.setIfInBounds_toArray, List.set_cons_zero, List.set_cons_succ]
      refine Segs.WL.val (some 97) (.bool false) W55 rfl (by kernel_rfl) (by kernel_rfl) ?_
      simp only [Act.put, List.setIfInBounds_toArray, List.set_cons_zero, List.set_cons_succ]
      refine Segs.WL.nil ?_
      go_upto_region 14 with (fail)
      refine Segs.wp_region_segs Segs.Hist [false, false, false, false, false, false, false, false, false, false, false, false, false, false, false, false, false] Segs.Hist.refl Segs.Hist.trans (by kernel_rfl) (by kernel_rfl) (by kernel_rfl) (Segs.WM.out ?_)
      have K61 := Lib.hid (show Blk W55.drew w.heap.size 25 CS from K56.out)
      have K62 := Lib.hid (show Blk W55.drew (w.heap.size + 1) 25 CM from K57.out)
      have K63 := Lib.hid (show Blk W55.drew bx 25 CS from K58.out)
      have B64 := Lib.hid B59.out.drew
      generalize W55.drew = W60 at K61 K62 K63 B64 ⊢
      refine Segs.WM.val (some 98) (.bool true) rfl (by kernel_rfl) (fun WW h => by kernel_rfl) ?_
      simp only [Act.put, List.setIfInBounds_toArray, List.set_cons_zero, List.set_cons_succ]
      refine Segs.WM.val (some 99) (.bool true) rfl (by kernel_rfl) (fun WW h => by kernel_rfl) ?_
      simp only [Act.put, List.setIfInBounds_toArray, List.set_cons_zero, List.set_cons_succ]
      refine Segs.WM.val (some 100) (.string A) rfl (by kernel_rfl) (fun WW h => by kernel_rfl) ?_
      simp only [Act.put, List.setIfInBounds_toArray, List.set_cons_zero, List.set_cons_succ]
      refine Segs.WM.val (some 101) (.string T) rfl (by kernel_rfl) (fun WW h => by kernel_rfl) ?_
      simp only [Act.put, List.setIfInBounds_toArray, List.set_cons_zero, List.set_cons_succ]
      refine Segs.WM.call (some 102) 13 #[.string T] (.string AT) rfl (by kernel_rfl) (fun W => by kernel_rfl) (fun WW h => REFT.out WW (LA.out _ (Lib.hid (B64.out.call h)).out.1).sha) ?_
      simp only [Act.put, List.setIfInBounds_toArray, List.set_cons_zero, List.set_cons_succ]
      refine Segs.WM.val (some 103) (.bool true) rfl (by kernel_rfl) (fun WW h => run_eqs rfl A AT (by kernel_rfl) (by kernel_rfl) true (HAE.out)) ?_
      simp only [Act.put, List.setIfInBounds_toArray, List.set_cons_zero, List.set_cons_succ]
      refine Segs.WM.val (some 104) (.agg CS) rfl (by kernel_rfl) (fun WW h => Segs.run_row 25 (.tmp 2) rfl w.heap.size (by kernel_rfl) 25 CS _ (Lib.hid (K61.out.below h)).out Tryd.underlying25 rfl (info19 (NCS.out.size))) ?_
      simp only [Act.put, List.setIfInBounds_toArray, List.set_cons_zero, List.set_cons_succ]
      refine Segs.WM.val (some 105) (.agg CM) rfl (by kernel_rfl) (fun WW h => Segs.run_row 25 (.tmp 3) rfl (w.heap.size + 1) (by kernel_rfl) 25 CM _ (Lib.hid (K62.out.below h)).out Tryd.underlying25 rfl (info19 (NCM.out.size))) ?_
      simp only [Act.put, List.setIfInBounds_toArray, List.set_cons_zero, List.set_cons_succ]
      refine Segs.WM.val (some 106) (.bool true) rfl (by kernel_rfl) (fun WW h => run_eql_of rfl CS CM HCS.out HCM.out (by kernel_rfl) (by kernel_rfl) h16 g16 true (HNE.out)) ?_
      simp only [Act.put, List.setIfInBounds_toArray, List.set_cons_zero, List.set_cons_succ]
      refine Segs.WM.val (some 107) (.bool true) rfl (by kernel_rfl) (fun WW h => by kernel_rfl) ?_
      simp only [Act.put, List.setIfInBounds_toArray, List.set_cons_zero, List.set_cons_succ]
      refine Segs.WM.val (some 108) (.bool true) rfl (by kernel_rfl) (fun WW h => by kernel_rfl) ?_
      simp only [Act.put, List.setIfInBounds_toArray, List.set_cons_zero, List.set_cons_succ]
      refine Segs.WM.not (some 109) rfl (by kernel_rfl) ?_
      simp only [Act.put, List.setIfInBounds_toArray, List.set_cons_zero, List.set_cons_succ]
      refine Segs.WM.not (some 110) rfl (by kernel_rfl) ?_
      simp only [Act.put, List.setIfInBounds_toArray, List.set_cons_zero, List.set_cons_succ]
      refine Segs.WM.not (some 111) rfl (by kernel_rfl) ?_
      simp only [Act.put, List.setIfInBounds_toArray, List.set_cons_zero, List.set_cons_succ]
      refine Segs.WM.val (some 112) (.bool true) rfl (by kernel_rfl) (fun WW h => by kernel_rfl) ?_
      simp only [Act.put, List.setIfInBounds_toArray, List.set_cons_zero, List.set_cons_succ]
      refine Segs.WM.val (some 113) (.bool true) rfl (by kernel_rfl) (fun WW h => by kernel_rfl) ?_
      simp only [Act.put, List.setIfInBounds_toArray, List.set_cons_zero, List.set_cons_succ]
      refine Segs.WM.val (some 4) (.bool true) rfl (by kernel_rfl) (fun WW h => by kernel_rfl) ?_
      simp only [Act.put, List.setIfInBounds_toArray, List.set_cons_zero, List.set_cons_succ]
      refine Segs.WM.fin (fun W65 hx => ?_)
      have K66 := Lib.hid (K61.out.below hx)
      have K67 := Lib.hid (K62.out.below hx)
      have K68 := Lib.hid (K63.out.below hx)
      have B69 := Lib.hid (B64.out.call hx)
      clear hx
      go_wp2_with fail
      go_ret
      exact ⟨rfl, B69.out.1⟩
    by_cases hae : refB (bytesB a0) = refB (bytesB a1)
    · have hc := tell hae hne
      rw [hc] at col
      have HNE := Lib.hid (show decide (a0 = a1) = false from decide_eq_false hne)
      have HAE := Lib.hid (show decide (refB (bytesB a0) = refB (bytesB a1)) = true from decide_eq_true hae)
      obtain ⟨A, hA⟩ : ∃ z, z = refB (bytesB a0) := ⟨_, rfl⟩
      obtain ⟨AT, hAT⟩ : ∃ z, z = refB (bytesB a1) := ⟨_, rfl⟩
      obtain ⟨S, hS⟩ : ∃ z, z = bytesB a0 := ⟨_, rfl⟩
      obtain ⟨T, hT⟩ : ∃ z, z = bytesB a1 := ⟨_, rfl⟩
      rw [← hA] at ref hash inl HAE
      rw [← hAT] at reft HAE
      rw [← hS] at putn ref col HLT ofs
      rw [← hT] at putm reft col
      have PN := Lib.hid putn
      have PM := Lib.hid putm
      have REF := Lib.hid ref
      have REFT := Lib.hid reft
      have HASH := Lib.hid hash
      have INL := Lib.hid inl
      have OF := Lib.hid ofs
      have COL := Lib.hid col
      clear hl fewn fewm hCS hCM hZ0 hfn hfm w0 w1 vn vm putn putm hvn hvm hk hk' hk00 hk10 ref reft hash inl col ofs tell ins bz bz' hs hS hT hA hAT hne hH hX hae hc
      have B0 := Lib.hid (Bl.start w)
      have K1 := Lib.hid (by have := Blk.new (w) 25 CS; simpa using this : Blk ((w).alloc (.cells CS 25)) w.heap.size 25 CS)
      have B2 := Lib.hid (B0.out.alloc (.cells CS 25))
      have K3 := Lib.hid (K1.out.alloc (.cells CM 25))
      have K4 := Lib.hid (by have := Blk.new (w.alloc (.cells CS 25)) 25 CM; simpa using this : Blk ((w.alloc (.cells CS 25)).alloc (.cells CM 25)) (w.heap.size + 1) 25 CM)
      have B5 := Lib.hid (B2.out.alloc (.cells CM 25))
      go_enter Tryd.func4, Tryd.ntmps4
      go_upto_region 1 with (fail)
      generalize (w.alloc (.cells CS 25)).alloc (.cells CM 25) = W6 at K3 K4 B5 ⊢
      refine wp_region_lit (Segs.WL.out ?_)
      refine Segs.WL.call (some 16) 8 #[] _ rfl (by kernel_rfl) (by kernel_rfl) (WK.out W6 (LA.out _ B5.out.1)) (fun e W7 hR => ?_)
      obtain ⟨rfl, hb⟩ := hR
      refine ⟨_, rfl, ?_⟩
      simp only [Act.put, List.setIfInBounds_toArray, List.set_cons_zero, List.set_cons_succ]
      have K8 := Lib.hid (K3.out.below hb)
      have K9 := Lib.hid (K4.out.below hb)
      have B10 := Lib.hid (B5.out.call hb)
      clear hb
      refine Segs.WL.val (some 5) (.bool true) W7 rfl (by kernel_rfl) (by kernel_rfl) ?_
      simp only [Act.put, List.setIfInBounds_toArray, List.set_cons_zero, List.set_cons_succ]
      refine Segs.WL.nil ?_
      go_upto_region 2 with (fail)
      refine wp_region_lit (Segs.WL.out ?_)
      refine Segs.WL.val (some 17) (.bool true) W7 rfl (by kernel_rfl) (by kernel_rfl) ?_
      simp only [Act.put, List.setIfInBounds_toArray, List.set_cons_zero, List.set_cons_succ]
      refine Segs.WL.val (some 18) (.bool false) W7 rfl (by kernel_rfl) (by kernel_rfl) ?_
      simp only [Act.put, List.setIfInBounds_toArray, List.set_cons_zero, List.set_cons_succ]
      refine Segs.WL.nil ?_
      go_upto_region 4 with (fail)
      refine wp_region_lit (Segs.WL.out ?_)
      refine Segs.WL.val (some 19) (.agg CS) W7 rfl (by kernel_rfl) (Segs.run_row 25 (.tmp 2) rfl w.heap.size (by kernel_rfl) 25 CS _ K8.out Tryd.underlying25 rfl (info19 (NCS.out.size))) ?_
      simp only [Act.put, List.setIfInBounds_toArray, List.set_cons_zero, List.set_cons_succ]
      refine Segs.WL.call (some 20) 9 #[.agg CS] _ rfl (by kernel_rfl) (by kernel_rfl) (FEWN.out W7) (fun e W11 hR => ?_)
      obtain ⟨rfl, hb⟩ := hR
      refine ⟨_, rfl, ?_⟩
      simp only [Act.put, List.setIfInBounds_toArray, List.set_cons_zero, List.set_cons_succ]
      have K12 := Lib.hid (K8.out.below hb)
      have K13 := Lib.hid (K9.out.below hb)
      have B14 := Lib.hid (B10.out.call hb)
      clear hb
      refine Segs.WL.val (some 21) (.bool true) W11 rfl (by kernel_rfl) (by kernel_rfl) ?_
      simp only [Act.put, List.setIfInBounds_toArray, List.set_cons_zero, List.set_cons_succ]
      refine Segs.WL.val (some 22) (.agg CM) W11 rfl (by kernel_rfl) (Segs.run_row 25 (.tmp 3) rfl (w.heap.size + 1) (by kernel_rfl) 25 CM _ K13.out Tryd.underlying25 rfl (info19 (NCM.out.size))) ?_
      simp only [Act.put, List.setIfInBounds_toArray, List.set_cons_zero, List.set_cons_succ]
      refine Segs.WL.call (some 23) 9 #[.agg CM] _ rfl (by kernel_rfl) (by kernel_rfl) (FEWM.out W11) (fun e W15 hR => ?_)
      obtain ⟨rfl, hb⟩ := hR
      refine ⟨_, rfl, ?_⟩
      simp only [Act.put, List.setIfInBounds_toArray, List.set_cons_zero, List.set_cons_succ]
      have K16 := Lib.hid (K12.out.below hb)
      have K17 := Lib.hid (K13.out.below hb)
      have B18 := Lib.hid (B14.out.call hb)
      clear hb
      refine Segs.WL.val (some 24) (.bool true) W15 rfl (by kernel_rfl) (by kernel_rfl) ?_
      simp only [Act.put, List.setIfInBounds_toArray, List.set_cons_zero, List.set_cons_succ]
      refine Segs.WL.val (some 6) (.bool true) W15 rfl (by kernel_rfl) (by kernel_rfl) ?_
      simp only [Act.put, List.setIfInBounds_toArray, List.set_cons_zero, List.set_cons_succ]
      refine Segs.WL.nil ?_
      go_upto_region 5 with (fail)
      refine wp_region_lit (Segs.WL.out ?_)
      refine Segs.WL.val (some 25) (.bool true) W15 rfl (by kernel_rfl) (by kernel_rfl) ?_
      simp only [Act.put, List.setIfInBounds_toArray, List.set_cons_zero, List.set_cons_succ]
      refine Segs.WL.val (some 26) (.bool false) W15 rfl (by kernel_rfl) (by kernel_rfl) ?_
      simp only [Act.put, List.setIfInBounds_toArray, List.set_cons_zero, List.set_cons_succ]
      refine Segs.WL.val (some 27) (.bool false) W15 rfl (by kernel_rfl) (by kernel_rfl) ?_
      simp only [Act.put, List.setIfInBounds_toArray, List.set_cons_zero, List.set_cons_succ]
      refine Segs.WL.val (some 28) (.agg CS) W15 rfl (by kernel_rfl) (Segs.run_row 25 (.tmp 2) rfl w.heap.size (by kernel_rfl) 25 CS _ K16.out Tryd.underlying25 rfl (info19 (NCS.out.size))) ?_
      simp only [Act.put, List.setIfInBounds_toArray, List.set_cons_zero, List.set_cons_succ]
      refine Segs.WL.call (some 29) 12 #[.agg CS] _ rfl (by kernel_rfl) (by kernel_rfl) (VN.out W15 (LA.out _ B18.out.1).err) (fun e W19 hR => ?_)
      obtain ⟨rfl, hb⟩ := hR
      refine ⟨_, rfl, ?_⟩
      simp only [Act.put, List.setIfInBounds_toArray, List.set_cons_zero, List.set_cons_succ]
      have K20 := Lib.hid (K16.out.below hb)
      have K21 := Lib.hid (K17.out.below hb)
      have B22 := Lib.hid (B18.out.call hb)
      clear hb
      refine Segs.WL.val (some 30) (.bool false) W19 rfl (by kernel_rfl) (by kernel_rfl) ?_
      simp only [Act.put, List.setIfInBounds_toArray, List.set_cons_zero, List.set_cons_succ]
      refine Segs.WL.val (some 31) (.bool false) W19 rfl (by kernel_rfl) (by kernel_rfl) ?_
      simp only [Act.put, List.setIfInBounds_toArray, List.set_cons_zero, List.set_cons_succ]
      refine Segs.WL.val (some 32) (.bool false) W19 rfl (by kernel_rfl) (by kernel_rfl) ?_
      simp only [Act.put, List.setIfInBounds_toArray, List.set_cons_zero, List.set_cons_succ]
      refine Segs.WL.val (some 33) (.agg CM) W19 rfl (by kernel_rfl) (Segs.run_row 25 (.tmp 3) rfl (w.heap.size + 1) (by kernel_rfl) 25 CM _ K21.out Tryd.underlying25 rfl (info19 (NCM.out.size))) ?_
      simp only [Act.put, List.setIfInBounds_toArray, List.set_cons_zero, List.set_cons_succ]
      refine Segs.WL.call (some 34) 12 #[.agg CM] _ rfl (by kernel_rfl) (by kernel_rfl) (VM.out W19 (LA.out _ B22.out.1).err) (fun e W23 hR => ?_)
      obtain ⟨rfl, hb⟩ := hR
      refine ⟨_, rfl, ?_⟩
      simp only [Act.put, List.setIfInBounds_toArray, List.set_cons_zero, List.set_cons_succ]
      have K24 := Lib.hid (K20.out.below hb)
      have K25 := Lib.hid (K21.out.below hb)
      have B26 := Lib.hid (B22.out.call hb)
      clear hb
      refine Segs.WL.val (some 35) (.bool false) W23 rfl (by kernel_rfl) (by kernel_rfl) ?_
      simp only [Act.put, List.setIfInBounds_toArray, List.set_cons_zero, List.set_cons_succ]
      refine Segs.WL.val (some 36) (.bool false) W23 rfl (by kernel_rfl) (by kernel_rfl) ?_
      simp only [Act.put, List.setIfInBounds_toArray, List.set_cons_zero, List.set_cons_succ]
      refine Segs.WL.val (some 37) (.bool false) W23 rfl (by kernel_rfl) (by kernel_rfl) ?_
      simp only [Act.put, List.setIfInBounds_toArray, List.set_cons_zero, List.set_cons_succ]
      refine Segs.WL.val (some 38) (.pointer (some ⟨w.heap.size, 0, none⟩)) W23 rfl (by kernel_rfl) (by kernel_rfl) ?_
      simp only [Act.put, List.setIfInBounds_toArray, List.set_cons_zero, List.set_cons_succ]
      refine Segs.WL.val (some 39) (.int .i64 k0) W23 rfl (by kernel_rfl) (Segs.run_cell 22 (.tmp 38) rfl w.heap.size 0 (by kernel_rfl) _ (isAggKind _) (by rw [K24.out.cell]; exact HK0.out)) ?_
      simp only [Act.put, List.setIfInBounds_toArray, List.set_cons_zero, List.set_cons_succ]
      refine Segs.WL.val (some 40) (.bool (decide (k0 = 0))) W23 rfl (by kernel_rfl) (by kernel_rfl) ?_
      simp only [Act.put, List.setIfInBounds_toArray, List.set_cons_zero, List.set_cons_succ]
      rw [DK0.out]
      refine Segs.WL.val (some 41) (.bool false) W23 rfl (by kernel_rfl) (by kernel_rfl) ?_
      simp only [Act.put, List.setIfInBounds_toArray, List.set_cons_zero, List.set_cons_succ]
      refine Segs.WL.val (some 42) (.bool false) W23 rfl (by kernel_rfl) (by kernel_rfl) ?_
      simp only [Act.put, List.setIfInBounds_toArray, List.set_cons_zero, List.set_cons_succ]
      refine Segs.WL.val (some 43) (.pointer (some ⟨(w.heap.size + 1), 0, none⟩)) W23 rfl (by kernel_rfl) (by kernel_rfl) ?_
      simp only [Act.put, List.setIfInBounds_toArray, List.set_cons_zero, List.set_cons_succ]
      refine Segs.WL.val (some 44) (.int .i64 k1) W23 rfl (by kernel_rfl) (Segs.run_cell 22 (.tmp 43) rfl (w.heap.size + 1) 0 (by kernel_rfl) _ (isAggKind _) (by rw [K25.out.cell]; exact HK1.out)) ?_
      simp only [Act.put, List.setIfInBounds_toArray, List.set_cons_zero, List.set_cons_succ]
      refine Segs.WL.val (some 45) (.bool (decide (k1 = 0))) W23 rfl (by kernel_rfl) (by kernel_rfl) ?_
      simp only [Act.put, List.setIfInBounds_toArray, List.set_cons_zero, List.set_cons_succ]
      rw [DK1.out]
      refine Segs.WL.val (some 46) (.bool false) W23 rfl (by kernel_rfl) (by kernel_rfl) ?_
      simp only [Act.put, List.setIfInBounds_toArray, List.set_cons_zero, List.set_cons_succ]
      refine Segs.WL.nil ?_
      go_upto_region 7 with (fail)
      refine wp_region_lit (Segs.WL.out ?_)
      refine Segs.WL.val (some 49) (.agg CS) W23 rfl (by kernel_rfl) (Segs.run_row 25 (.tmp 2) rfl w.heap.size (by kernel_rfl) 25 CS _ K24.out Tryd.underlying25 rfl (info19 (NCS.out.size))) ?_
      simp only [Act.put, List.setIfInBounds_toArray, List.set_cons_zero, List.set_cons_succ]
      refine Segs.WL.call (some 50) 10 #[.agg CS] _ rfl (by kernel_rfl) (by kernel_rfl) (PN.out W23 (LA.out _ B26.out.1).err) (fun e W27 hR => ?_)
      obtain ⟨rfl, hb⟩ := hR
      refine ⟨_, rfl, ?_⟩
      simp only [Act.put, List.setIfInBounds_toArray, List.set_cons_zero, List.set_cons_succ]
      have K28 := Lib.hid (K24.out.below hb)
      have K29 := Lib.hid (K25.out.below hb)
      have B30 := Lib.hid (B26.out.call hb)
      clear hb
      refine Segs.WL.val (some 48) (.tuple #[.string S, .int .i64 0]) W27 rfl (by kernel_rfl) (by kernel_rfl) ?_
      simp only [Act.put, List.setIfInBounds_toArray, List.set_cons_zero, List.set_cons_succ]
      refine Segs.WL.val (some 51) (.string S) W27 rfl (by kernel_rfl) (by kernel_rfl) ?_
      simp only [Act.put, List.setIfInBounds_toArray, List.set_cons_zero, List.set_cons_succ]
      refine Segs.WL.val (some 52) (.int .i64 0) W27 rfl (by kernel_rfl) (by kernel_rfl) ?_
      simp only [Act.put, List.setIfInBounds_toArray, List.set_cons_zero, List.set_cons_succ]
      refine Segs.WL.val (some 7) (.string S) W27 rfl (by kernel_rfl) (by kernel_rfl) ?_
      simp only [Act.put, List.setIfInBounds_toArray, List.set_cons_zero, List.set_cons_succ]
      refine Segs.WL.val (some 8) (.int .i64 0) W27 rfl (by kernel_rfl) (by kernel_rfl) ?_
      simp only [Act.put, List.setIfInBounds_toArray, List.set_cons_zero, List.set_cons_succ]
      refine Segs.WL.nil ?_
      go_upto_region 8 with (fail)
      refine wp_region_lit (Segs.WL.out ?_)
      refine Segs.WL.val (some 54) (.agg CM) W27 rfl (by kernel_rfl) (Segs.run_row 25 (.tmp 3) rfl (w.heap.size + 1) (by kernel_rfl) 25 CM _ K29.out Tryd.underlying25 rfl (info19 (NCM.out.size))) ?_
      simp only [Act.put, List.setIfInBounds_toArray, List.set_cons_zero, List.set_cons_succ]
      refine Segs.WL.call (some 55) 10 #[.agg CM] _ rfl (by kernel_rfl) (by kernel_rfl) (PM.out W27 (LA.out _ B30.out.1).err) (fun e W31 hR => ?_)
      obtain ⟨rfl, hb⟩ := hR
      refine ⟨_, rfl, ?_⟩
      simp only [Act.put, List.setIfInBounds_toArray, List.set_cons_zero, List.set_cons_succ]
      have K32 := Lib.hid (K28.out.below hb)
      have K33 := Lib.hid (K29.out.below hb)
      have B34 := Lib.hid (B30.out.call hb)
      clear hb
      refine Segs.WL.val (some 53) (.tuple #[.string T, .int .i64 0]) W31 rfl (by kernel_rfl) (by kernel_rfl) ?_
      simp only [Act.put, List.setIfInBounds_toArray, List.set_cons_zero, List.set_cons_succ]
      refine Segs.WL.val (some 56) (.string T) W31 rfl (by kernel_rfl) (by kernel_rfl) ?_
      simp only [Act.put, List.setIfInBounds_toArray, List.set_cons_zero, List.set_cons_succ]
      refine Segs.WL.val (some 57) (.int .i64 0) W31 rfl (by kernel_rfl) (by kernel_rfl) ?_
      simp only [Act.put, List.setIfInBounds_toArray, List.set_cons_zero, List.set_cons_succ]
      refine Segs.WL.val (some 9) (.string T) W31 rfl (by kernel_rfl) (by kernel_rfl) ?_
      simp only [Act.put, List.setIfInBounds_toArray, List.set_cons_zero, List.set_cons_succ]
      refine Segs.WL.val (some 10) (.int .i64 0) W31 rfl (by kernel_rfl) (by kernel_rfl) ?_
      simp only [Act.put, List.setIfInBounds_toArray, List.set_cons_zero, List.set_cons_succ]
      refine Segs.WL.nil ?_
      go_upto_region 9 with (fail)
      refine wp_region_lit (Segs.WL.out ?_)
      refine Segs.WL.val (some 58) (.string S) W31 rfl (by kernel_rfl) (by kernel_rfl) ?_
      simp only [Act.put, List.setIfInBounds_toArray, List.set_cons_zero, List.set_cons_succ]
      refine Segs.WL.call (some 59) 13 #[.string S] _ rfl (by kernel_rfl) (by kernel_rfl) (REF.out W31 (LA.out _ B34.out.1).sha) (fun e W35 hR => ?_)
      obtain ⟨rfl, hb⟩ := hR
      refine ⟨_, rfl, ?_⟩
      simp only [Act.put, List.setIfInBounds_toArray, List.set_cons_zero, List.set_cons_succ]
      have K36 := Lib.hid (K32.out.below hb)
      have K37 := Lib.hid (K33.out.below hb)
      have B38 := Lib.hid (B34.out.call hb)
      clear hb
      refine Segs.WL.val (some 11) (.string A) W35 rfl (by kernel_rfl) (by kernel_rfl) ?_
      simp only [Act.put, List.setIfInBounds_toArray, List.set_cons_zero, List.set_cons_succ]
      refine Segs.WL.nil ?_
      go_upto_region 10 with (fail)
      refine wp_region_lit (Segs.WL.out ?_)
      refine Segs.WL.val (some 61) (.string A) W35 rfl (by kernel_rfl) (by kernel_rfl) ?_
      simp only [Act.put, List.setIfInBounds_toArray, List.set_cons_zero, List.set_cons_succ]
      refine Segs.WL.call (some 62) 14 #[.string A] _ rfl (by kernel_rfl) (by kernel_rfl) (HASH.out W35) (fun e W39 hR => ?_)
      obtain ⟨rfl, hb⟩ := hR
      refine ⟨_, rfl, ?_⟩
      simp only [Act.put, List.setIfInBounds_toArray, List.set_cons_zero, List.set_cons_succ]
      have K40 := Lib.hid (K36.out.below hb)
      have K41 := Lib.hid (K37.out.below hb)
      have B42 := Lib.hid (B38.out.call hb)
      clear hb
      refine Segs.WL.val (some 60) (.tuple #[.string H, .bool false]) W39 rfl (by kernel_rfl) (by kernel_rfl) ?_
      simp only [Act.put, List.setIfInBounds_toArray, List.set_cons_zero, List.set_cons_succ]
      refine Segs.WL.val (some 63) (.string H) W39 rfl (by kernel_rfl) (by kernel_rfl) ?_
      simp only [Act.put, List.setIfInBounds_toArray, List.set_cons_zero, List.set_cons_succ]
      refine Segs.WL.val (some 64) (.bool false) W39 rfl (by kernel_rfl) (by kernel_rfl) ?_
      simp only [Act.put, List.setIfInBounds_toArray, List.set_cons_zero, List.set_cons_succ]
      refine Segs.WL.val (some 12) (.string H) W39 rfl (by kernel_rfl) (by kernel_rfl) ?_
      simp only [Act.put, List.setIfInBounds_toArray, List.set_cons_zero, List.set_cons_succ]
      refine Segs.WL.val (some 13) (.bool false) W39 rfl (by kernel_rfl) (by kernel_rfl) ?_
      simp only [Act.put, List.setIfInBounds_toArray, List.set_cons_zero, List.set_cons_succ]
      refine Segs.WL.nil ?_
      go_upto_region 11 with (fail)
      refine wp_region_lit (Segs.WL.out ?_)
      refine Segs.WL.val (some 66) (.string A) W39 rfl (by kernel_rfl) (by kernel_rfl) ?_
      simp only [Act.put, List.setIfInBounds_toArray, List.set_cons_zero, List.set_cons_succ]
      refine Segs.WL.call (some 67) 15 #[.string A] _ rfl (by kernel_rfl) (by kernel_rfl) (INL.out W39 (LA.out _ B42.out.1).err) (fun e W43 hR => ?_)
      obtain ⟨rfl, hb⟩ := hR
      refine ⟨_, rfl, ?_⟩
      simp only [Act.put, List.setIfInBounds_toArray, List.set_cons_zero, List.set_cons_succ]
      have K44 := Lib.hid (K40.out.below hb)
      have K45 := Lib.hid (K41.out.below hb)
      have B46 := Lib.hid (B42.out.call hb)
      clear hb
      refine Segs.WL.val (some 65) (.tuple #[.agg CS, .bool true]) W43 rfl (by kernel_rfl) (by kernel_rfl) ?_
      simp only [Act.put, List.setIfInBounds_toArray, List.set_cons_zero, List.set_cons_succ]
      refine Segs.WL.val (some 68) (.agg CS) W43 rfl (by kernel_rfl) (by kernel_rfl) ?_
      simp only [Act.put, List.setIfInBounds_toArray, List.set_cons_zero, List.set_cons_succ]
      refine Segs.WL.val (some 69) (.bool true) W43 rfl (by kernel_rfl) (by kernel_rfl) ?_
      simp only [Act.put, List.setIfInBounds_toArray, List.set_cons_zero, List.set_cons_succ]
      obtain ⟨bx, hbx⟩ : ∃ n, n = W43.heap.size := ⟨_, rfl⟩
      have K48 := Lib.hid (K44.out.alloc (.cells Z0 25))
      have ne49 : w.heap.size ≠ bx := by have := K44.out.lt; omega
      have K50 := Lib.hid (K45.out.alloc (.cells Z0 25))
      have ne51 : (w.heap.size + 1) ≠ bx := by have := K45.out.lt; omega
      have K52 := Lib.hid (by have := Blk.new W43 25 Z0; rw [← hbx] at this; exact this : Blk (W43.alloc (.cells Z0 25)) bx 25 Z0)
      have B53 := Lib.hid (B46.out.alloc (.cells Z0 25))
      have ge54 : w.heap.size ≤ bx := by rw [hbx]; exact B46.out.2
      refine Segs.WL.val (some 14) (.pointer (some ⟨bx, 0, none⟩)) (W43.alloc (.cells Z0 25)) rfl (by kernel_rfl) (by rw [hbx]; exact Segs.run_allocOf rfl Z0 (al_nd0 HZ.out)) ?_
      simp only [Act.put, List.setIfInBounds_toArray, List.set_cons_zero, List.set_cons_succ]
      generalize W43.alloc (.cells Z0 25) = W47 at K48 K50 K52 B53 ⊢
      clear hbx
      have K56 := Lib.hid (K48.out.rowOther (g' := bx) (cs := CS) ne49)
      have K57 := Lib.hid (K50.out.rowOther (g' := bx) (cs := CS) ne51)
      have K58 := Lib.hid (K52.out.row (cs := CS))
      have B59 := Lib.hid (Bl.setRow B53.out (g := bx) ge54 CS)
      refine Segs.WL.skip (W47.setRow bx CS) rfl (by kernel_rfl) (Segs.run_storeRow rfl bx CS (by kernel_rfl) (by kernel_rfl) 25 Z0 K52.out (info19 NCS.out.size) (NZ.out.size.trans NCS.out.size.symm) NCS.out.one) ?_
      generalize W47.setRow bx CS = W55 at K56 K57 K58 B59 ⊢
      refine Segs.WL.val (some 15) (.bool true) W55 rfl (by kernel_rfl) (by kernel_rfl) ?_
      simp only [Act.put, List.setIfInBounds_toArray, List.set_cons_zero, List.set_cons_succ]
      refine Segs.WL.nil ?_
      go_upto_region 12 with (fail)
      refine wp_region_lit (Segs.WL.out ?_)
      refine Segs.WL.val (some 70) (.bool false) W55 rfl (by kernel_rfl) (by kernel_rfl) ?_
      simp only [Act.put, List.setIfInBounds_toArray, List.set_cons_zero, List.set_cons_succ]
      refine Segs.WL.val (some 71) (.bool true) W55 rfl (by kernel_rfl) (by kernel_rfl) ?_
      simp only [Act.put, List.setIfInBounds_toArray, List.set_cons_zero, List.set_cons_succ]
      refine Segs.WL.val (some 72) (.bool false) W55 rfl (by kernel_rfl) (by kernel_rfl) ?_
      simp only [Act.put, List.setIfInBounds_toArray, List.set_cons_zero, List.set_cons_succ]
      refine Segs.WL.val (some 73) (.bool false) W55 rfl (by kernel_rfl) (by kernel_rfl) ?_
      simp only [Act.put, List.setIfInBounds_toArray, List.set_cons_zero, List.set_cons_succ]
      refine Segs.WL.val (some 74) (.bool true) W55 rfl (by kernel_rfl) (by kernel_rfl) ?_
      simp only [Act.put, List.setIfInBounds_toArray, List.set_cons_zero, List.set_cons_succ]
      refine Segs.WL.val (some 75) (.bool true) W55 rfl (by kernel_rfl) (by kernel_rfl) ?_
      simp only [Act.put, List.setIfInBounds_toArray, List.set_cons_zero, List.set_cons_succ]
      refine Segs.WL.val (some 76) (.agg CS) W55 rfl (by kernel_rfl) (Segs.run_row 25 (.tmp 14) rfl bx (by kernel_rfl) 25 CS _ K58.out Tryd.underlying25 rfl (info19 (NCS.out.size))) ?_
      simp only [Act.put, List.setIfInBounds_toArray, List.set_cons_zero, List.set_cons_succ]
      refine Segs.WL.val (some 77) (.agg CS) W55 rfl (by kernel_rfl) (Segs.run_row 25 (.tmp 2) rfl w.heap.size (by kernel_rfl) 25 CS _ K56.out Tryd.underlying25 rfl (info19 (NCS.out.size))) ?_
      simp only [Act.put, List.setIfInBounds_toArray, List.set_cons_zero, List.set_cons_succ]
      refine Segs.WL.val (some 78) (.bool !true) W55 rfl (by kernel_rfl) (run_neq_of rfl CS CS HCS.out HCS.out (by kernel_rfl) (by kernel_rfl) h16 h16 true (decide_eq_true rfl)) ?_
      simp only [Act.put, List.setIfInBounds_toArray, List.set_cons_zero, List.set_cons_succ]
      refine Segs.WL.val (some 79) (.bool false) W55 rfl (by kernel_rfl) (by kernel_rfl) ?_
      simp only [Act.put, List.setIfInBounds_toArray, List.set_cons_zero, List.set_cons_succ]
      refine Segs.WL.val (some 80) (.bool false) W55 rfl (by kernel_rfl) (by kernel_rfl) ?_
      simp only [Act.put, List.setIfInBounds_toArray, List.set_cons_zero, List.set_cons_succ]
      refine Segs.WL.val (some 81) (.bool false) W55 rfl (by kernel_rfl) (by kernel_rfl) ?_
      simp only [Act.put, List.setIfInBounds_toArray, List.set_cons_zero, List.set_cons_succ]
      refine Segs.WL.val (some 82) (.bool false) W55 rfl (by kernel_rfl) (by kernel_rfl) ?_
      simp only [Act.put, List.setIfInBounds_toArray, List.set_cons_zero, List.set_cons_succ]
      refine Segs.WL.val (some 83) (.bool false) W55 rfl (by kernel_rfl) (by kernel_rfl) ?_
      simp only [Act.put, List.setIfInBounds_toArray, List.set_cons_zero, List.set_cons_succ]
      refine Segs.WL.not (some 84) rfl (by kernel_rfl) ?_
      simp only [Act.put, List.setIfInBounds_toArray, List.set_cons_zero, List.set_cons_succ]
      refine Segs.WL.not (some 85) rfl (by kernel_rfl) ?_
      simp only [Act.put, List.setIfInBounds_toArray, List.set_cons_zero, List.set_cons_succ]
      refine Segs.WL.not (some 86) rfl (by kernel_rfl) ?_
      simp only [Act.put, List.setIfInBounds_toArray, List.set_cons_zero, List.set_cons_succ]
      refine Segs.WL.not (some 87) rfl (by kernel_rfl) ?_
      simp only [Act.put, List.setIfInBounds_toArray, List.set_cons_zero, List.set_cons_succ]
      refine Segs.WL.not (some 88) rfl (by kernel_rfl) ?_
      simp only [Act.put, List.setIfInBounds_toArray, List.set_cons_zero, List.set_cons_succ]
      refine Segs.WL.val (some 89) (.bool false) W55 rfl (by kernel_rfl) (by kernel_rfl) ?_
      simp only [Act.put, List.setIfInBounds_toArray, List.set_cons_zero, List.set_cons_succ]
      refine Segs.WL.val (some 90) (.bool false) W55 rfl (by kernel_rfl) (by kernel_rfl) ?_
      simp only [Act.put, List.setIfInBounds_toArray, List.set_cons_zero, List.set_cons_succ]
      refine Segs.WL.val (some 91) (.bool false) W55 rfl (by kernel_rfl) (by kernel_rfl) ?_
      simp only [Act.put, List.setIfInBounds_toArray, List.set_cons_zero, List.set_cons_succ]
      refine Segs.WL.val (some 92) (.bool true) W55 rfl (by kernel_rfl) (by kernel_rfl) ?_
      simp only [Act.put, List.setIfInBounds_toArray, List.set_cons_zero, List.set_cons_succ]
      refine Segs.WL.val (some 93) (.string S) W55 rfl (by kernel_rfl) (by kernel_rfl) ?_
      simp only [Act.put, List.setIfInBounds_toArray, List.set_cons_zero, List.set_cons_succ]
      refine Segs.WL.val (some 94) (.int .i64 ((S.size : Int))) W55 rfl (by kernel_rfl) (by kernel_rfl) ?_
      simp only [Act.put, List.setIfInBounds_toArray, List.set_cons_zero, List.set_cons_succ]
      refine Segs.WL.val (some 95) (.bool (decide ((S.size : Int) < (32 : Int)))) W55 rfl (by kernel_rfl) (by kernel_rfl) ?_
      simp only [Act.put, List.setIfInBounds_toArray, List.set_cons_zero, List.set_cons_succ]
      rw [HLT.out]
      refine Segs.WL.val (some 96) (.bool false) W55 rfl (by kernel_rfl) (by kernel_rfl) ?_
      simp only [Act.put, List.setIfInBounds_toArray, List.set_cons_zero, List.set_cons_succ]
      refine Segs.WL.val (some 97) (.bool false) W55 rfl (by kernel_rfl) (by kernel_rfl) ?_
      simp only [Act.put, List.setIfInBounds_toArray, List.set_cons_zero, List.set_cons_succ]
      refine Segs.WL.nil ?_
      go_upto_region 14 with (fail)
      refine Segs.wp_region_segs Segs.Hist [false, false, false, false, false, false, false, false, false, false, false, false, false, false, false, false, false] Segs.Hist.refl Segs.Hist.trans (by kernel_rfl) (by kernel_rfl) (by kernel_rfl) (Segs.WM.out ?_)
      have K61 := Lib.hid (show Blk W55.drew w.heap.size 25 CS from K56.out)
      have K62 := Lib.hid (show Blk W55.drew (w.heap.size + 1) 25 CM from K57.out)
      have K63 := Lib.hid (show Blk W55.drew bx 25 CS from K58.out)
      have B64 := Lib.hid B59.out.drew
      generalize W55.drew = W60 at K61 K62 K63 B64 ⊢
      refine Segs.WM.val (some 98) (.bool true) rfl (by kernel_rfl) (fun WW h => by kernel_rfl) ?_
      simp only [Act.put, List.setIfInBounds_toArray, List.set_cons_zero, List.set_cons_succ]
      refine Segs.WM.val (some 99) (.bool true) rfl (by kernel_rfl) (fun WW h => by kernel_rfl) ?_
      simp only [Act.put, List.setIfInBounds_toArray, List.set_cons_zero, List.set_cons_succ]
      refine Segs.WM.val (some 100) (.string A) rfl (by kernel_rfl) (fun WW h => by kernel_rfl) ?_
      simp only [Act.put, List.setIfInBounds_toArray, List.set_cons_zero, List.set_cons_succ]
      refine Segs.WM.val (some 101) (.string T) rfl (by kernel_rfl) (fun WW h => by kernel_rfl) ?_
      simp only [Act.put, List.setIfInBounds_toArray, List.set_cons_zero, List.set_cons_succ]
      refine Segs.WM.call (some 102) 13 #[.string T] (.string AT) rfl (by kernel_rfl) (fun W => by kernel_rfl) (fun WW h => REFT.out WW (LA.out _ (Lib.hid (B64.out.call h)).out.1).sha) ?_
      simp only [Act.put, List.setIfInBounds_toArray, List.set_cons_zero, List.set_cons_succ]
      refine Segs.WM.val (some 103) (.bool true) rfl (by kernel_rfl) (fun WW h => run_eqs rfl A AT (by kernel_rfl) (by kernel_rfl) true (HAE.out)) ?_
      simp only [Act.put, List.setIfInBounds_toArray, List.set_cons_zero, List.set_cons_succ]
      refine Segs.WM.val (some 104) (.agg CS) rfl (by kernel_rfl) (fun WW h => Segs.run_row 25 (.tmp 2) rfl w.heap.size (by kernel_rfl) 25 CS _ (Lib.hid (K61.out.below h)).out Tryd.underlying25 rfl (info19 (NCS.out.size))) ?_
      simp only [Act.put, List.setIfInBounds_toArray, List.set_cons_zero, List.set_cons_succ]
      refine Segs.WM.val (some 105) (.agg CM) rfl (by kernel_rfl) (fun WW h => Segs.run_row 25 (.tmp 3) rfl (w.heap.size + 1) (by kernel_rfl) 25 CM _ (Lib.hid (K62.out.below h)).out Tryd.underlying25 rfl (info19 (NCM.out.size))) ?_
      simp only [Act.put, List.setIfInBounds_toArray, List.set_cons_zero, List.set_cons_succ]
      refine Segs.WM.val (some 106) (.bool false) rfl (by kernel_rfl) (fun WW h => run_eql_of rfl CS CM HCS.out HCM.out (by kernel_rfl) (by kernel_rfl) h16 g16 false (HNE.out)) ?_
      simp only [Act.put, List.setIfInBounds_toArray, List.set_cons_zero, List.set_cons_succ]
      refine Segs.WM.val (some 107) (.bool false) rfl (by kernel_rfl) (fun WW h => by kernel_rfl) ?_
      simp only [Act.put, List.setIfInBounds_toArray, List.set_cons_zero, List.set_cons_succ]
      refine Segs.WM.val (some 108) (.bool false) rfl (by kernel_rfl) (fun WW h => by kernel_rfl) ?_
      simp only [Act.put, List.setIfInBounds_toArray, List.set_cons_zero, List.set_cons_succ]
      refine Segs.WM.val (some 109) (.string S) rfl (by kernel_rfl) (fun WW h => by kernel_rfl) ?_
      simp only [Act.put, List.setIfInBounds_toArray, List.set_cons_zero, List.set_cons_succ]
      refine Segs.WM.val (some 110) (.string T) rfl (by kernel_rfl) (fun WW h => by kernel_rfl) ?_
      simp only [Act.put, List.setIfInBounds_toArray, List.set_cons_zero, List.set_cons_succ]
      refine Segs.WM.call (some 111) 17 #[.string S, .string T] (.bool true) rfl (by kernel_rfl) (fun W => by kernel_rfl) (fun WW h => COL.out WW (LA.out _ (Lib.hid (B64.out.call h)).out.1).sha) ?_
      simp only [Act.put, List.setIfInBounds_toArray, List.set_cons_zero, List.set_cons_succ]
      refine Segs.WM.val (some 112) (.bool true) rfl (by kernel_rfl) (fun WW h => by kernel_rfl) ?_
      simp only [Act.put, List.setIfInBounds_toArray, List.set_cons_zero, List.set_cons_succ]
      refine Segs.WM.val (some 113) (.bool true) rfl (by kernel_rfl) (fun WW h => by kernel_rfl) ?_
      simp only [Act.put, List.setIfInBounds_toArray, List.set_cons_zero, List.set_cons_succ]
      refine Segs.WM.val (some 4) (.bool true) rfl (by kernel_rfl) (fun WW h => by kernel_rfl) ?_
      simp only [Act.put, List.setIfInBounds_toArray, List.set_cons_zero, List.set_cons_succ]
      refine Segs.WM.fin (fun W65 hx => ?_)
      have K66 := Lib.hid (K61.out.below hx)
      have K67 := Lib.hid (K62.out.below hx)
      have K68 := Lib.hid (K63.out.below hx)
      have B69 := Lib.hid (B64.out.call hx)
      clear hx
      go_wp2_with fail
      go_ret
      exact ⟨rfl, B69.out.1⟩
    · skip
      have HNE := Lib.hid (show decide (a0 = a1) = false from decide_eq_false hne)
      have HAE := Lib.hid (show decide (refB (bytesB a0) = refB (bytesB a1)) = false from decide_eq_false hae)
      obtain ⟨A, hA⟩ : ∃ z, z = refB (bytesB a0) := ⟨_, rfl⟩
      obtain ⟨AT, hAT⟩ : ∃ z, z = refB (bytesB a1) := ⟨_, rfl⟩
      obtain ⟨S, hS⟩ : ∃ z, z = bytesB a0 := ⟨_, rfl⟩
      obtain ⟨T, hT⟩ : ∃ z, z = bytesB a1 := ⟨_, rfl⟩
      rw [← hA] at ref hash inl HAE
      rw [← hAT] at reft HAE
      rw [← hS] at putn ref col HLT ofs
      rw [← hT] at putm reft col
      have PN := Lib.hid putn
      have PM := Lib.hid putm
      have REF := Lib.hid ref
      have REFT := Lib.hid reft
      have HASH := Lib.hid hash
      have INL := Lib.hid inl
      have OF := Lib.hid ofs
      have COL := Lib.hid col
      clear hl fewn fewm hCS hCM hZ0 hfn hfm w0 w1 vn vm putn putm hvn hvm hk hk' hk00 hk10 ref reft hash inl col ofs tell ins bz bz' hs hS hT hA hAT hne hH hX hae
      have B0 := Lib.hid (Bl.start w)
      have K1 := Lib.hid (by have := Blk.new (w) 25 CS; simpa using this : Blk ((w).alloc (.cells CS 25)) w.heap.size 25 CS)
      have B2 := Lib.hid (B0.out.alloc (.cells CS 25))
      have K3 := Lib.hid (K1.out.alloc (.cells CM 25))
      have K4 := Lib.hid (by have := Blk.new (w.alloc (.cells CS 25)) 25 CM; simpa using this : Blk ((w.alloc (.cells CS 25)).alloc (.cells CM 25)) (w.heap.size + 1) 25 CM)
      have B5 := Lib.hid (B2.out.alloc (.cells CM 25))
      go_enter Tryd.func4, Tryd.ntmps4
      go_upto_region 1 with (fail)
      generalize (w.alloc (.cells CS 25)).alloc (.cells CM 25) = W6 at K3 K4 B5 ⊢
      refine wp_region_lit (Segs.WL.out ?_)
      refine Segs.WL.call (some 16) 8 #[] _ rfl (by kernel_rfl) (by kernel_rfl) (WK.out W6 (LA.out _ B5.out.1)) (fun e W7 hR => ?_)
      obtain ⟨rfl, hb⟩ := hR
      refine ⟨_, rfl, ?_⟩
      simp only [Act.put, List.setIfInBounds_toArray, List.set_cons_zero, List.set_cons_succ]
      have K8 := Lib.hid (K3.out.below hb)
      have K9 := Lib.hid (K4.out.below hb)
      have B10 := Lib.hid (B5.out.call hb)
      clear hb
      refine Segs.WL.val (some 5) (.bool true) W7 rfl (by kernel_rfl) (by kernel_rfl) ?_
      simp only [Act.put, List.setIfInBounds_toArray, List.set_cons_zero, List.set_cons_succ]
      refine Segs.WL.nil ?_
      go_upto_region 2 with (fail)
      refine wp_region_lit (Segs.WL.out ?_)
      refine Segs.WL.val (some 17) (.bool true) W7 rfl (by kernel_rfl) (by kernel_rfl) ?_
      simp only [Act.put, List.setIfInBounds_toArray, List.set_cons_zero, List.set_cons_succ]
      refine Segs.WL.val (some 18) (.bool false) W7 rfl (by kernel_rfl) (by kernel_rfl) ?_
      simp only [Act.put, List.setIfInBounds_toArray, List.set_cons_zero, List.set_cons_succ]
      refine Segs.WL.nil ?_
      go_upto_region 4 with (fail)
      refine wp_region_lit (Segs.WL.out ?_)
      refine Segs.WL.val (some 19) (.agg CS) W7 rfl (by kernel_rfl) (Segs.run_row 25 (.tmp 2) rfl w.heap.size (by kernel_rfl) 25 CS _ K8.out Tryd.underlying25 rfl (info19 (NCS.out.size))) ?_
      simp only [Act.put, List.setIfInBounds_toArray, List.set_cons_zero, List.set_cons_succ]
      refine Segs.WL.call (some 20) 9 #[.agg CS] _ rfl (by kernel_rfl) (by kernel_rfl) (FEWN.out W7) (fun e W11 hR => ?_)
      obtain ⟨rfl, hb⟩ := hR
      refine ⟨_, rfl, ?_⟩
      simp only [Act.put, List.setIfInBounds_toArray, List.set_cons_zero, List.set_cons_succ]
      have K12 := Lib.hid (K8.out.below hb)
      have K13 := Lib.hid (K9.out.below hb)
      have B14 := Lib.hid (B10.out.call hb)
      clear hb
      refine Segs.WL.val (some 21) (.bool true) W11 rfl (by kernel_rfl) (by kernel_rfl) ?_
      simp only [Act.put, List.setIfInBounds_toArray, List.set_cons_zero, List.set_cons_succ]
      refine Segs.WL.val (some 22) (.agg CM) W11 rfl (by kernel_rfl) (Segs.run_row 25 (.tmp 3) rfl (w.heap.size + 1) (by kernel_rfl) 25 CM _ K13.out Tryd.underlying25 rfl (info19 (NCM.out.size))) ?_
      simp only [Act.put, List.setIfInBounds_toArray, List.set_cons_zero, List.set_cons_succ]
      refine Segs.WL.call (some 23) 9 #[.agg CM] _ rfl (by kernel_rfl) (by kernel_rfl) (FEWM.out W11) (fun e W15 hR => ?_)
      obtain ⟨rfl, hb⟩ := hR
      refine ⟨_, rfl, ?_⟩
      simp only [Act.put, List.setIfInBounds_toArray, List.set_cons_zero, List.set_cons_succ]
      have K16 := Lib.hid (K12.out.below hb)
      have K17 := Lib.hid (K13.out.below hb)
      have B18 := Lib.hid (B14.out.call hb)
      clear hb
      refine Segs.WL.val (some 24) (.bool true) W15 rfl (by kernel_rfl) (by kernel_rfl) ?_
      simp only [Act.put, List.setIfInBounds_toArray, List.set_cons_zero, List.set_cons_succ]
      refine Segs.WL.val (some 6) (.bool true) W15 rfl (by kernel_rfl) (by kernel_rfl) ?_
      simp only [Act.put, List.setIfInBounds_toArray, List.set_cons_zero, List.set_cons_succ]
      refine Segs.WL.nil ?_
      go_upto_region 5 with (fail)
      refine wp_region_lit (Segs.WL.out ?_)
      refine Segs.WL.val (some 25) (.bool true) W15 rfl (by kernel_rfl) (by kernel_rfl) ?_
      simp only [Act.put, List.setIfInBounds_toArray, List.set_cons_zero, List.set_cons_succ]
      refine Segs.WL.val (some 26) (.bool false) W15 rfl (by kernel_rfl) (by kernel_rfl) ?_
      simp only [Act.put, List.setIfInBounds_toArray, List.set_cons_zero, List.set_cons_succ]
      refine Segs.WL.val (some 27) (.bool false) W15 rfl (by kernel_rfl) (by kernel_rfl) ?_
      simp only [Act.put, List.setIfInBounds_toArray, List.set_cons_zero, List.set_cons_succ]
      refine Segs.WL.val (some 28) (.agg CS) W15 rfl (by kernel_rfl) (Segs.run_row 25 (.tmp 2) rfl w.heap.size (by kernel_rfl) 25 CS _ K16.out Tryd.underlying25 rfl (info19 (NCS.out.size))) ?_
      simp only [Act.put, List.setIfInBounds_toArray, List.set_cons_zero, List.set_cons_succ]
      refine Segs.WL.call (some 29) 12 #[.agg CS] _ rfl (by kernel_rfl) (by kernel_rfl) (VN.out W15 (LA.out _ B18.out.1).err) (fun e W19 hR => ?_)
      obtain ⟨rfl, hb⟩ := hR
      refine ⟨_, rfl, ?_⟩
      simp only [Act.put, List.setIfInBounds_toArray, List.set_cons_zero, List.set_cons_succ]
      have K20 := Lib.hid (K16.out.below hb)
      have K21 := Lib.hid (K17.out.below hb)
      have B22 := Lib.hid (B18.out.call hb)
      clear hb
      refine Segs.WL.val (some 30) (.bool false) W19 rfl (by kernel_rfl) (by kernel_rfl) ?_
      simp only [Act.put, List.setIfInBounds_toArray, List.set_cons_zero, List.set_cons_succ]
      refine Segs.WL.val (some 31) (.bool false) W19 rfl (by kernel_rfl) (by kernel_rfl) ?_
      simp only [Act.put, List.setIfInBounds_toArray, List.set_cons_zero, List.set_cons_succ]
      refine Segs.WL.val (some 32) (.bool false) W19 rfl (by kernel_rfl) (by kernel_rfl) ?_
      simp only [Act.put, List.setIfInBounds_toArray, List.set_cons_zero, List.set_cons_succ]
      refine Segs.WL.val (some 33) (.agg CM) W19 rfl (by kernel_rfl) (Segs.run_row 25 (.tmp 3) rfl (w.heap.size + 1) (by kernel_rfl) 25 CM _ K21.out Tryd.underlying25 rfl (info19 (NCM.out.size))) ?_
      simp only [Act.put, List.setIfInBounds_toArray, List.set_cons_zero, List.set_cons_succ]
      refine Segs.WL.call (some 34) 12 #[.agg CM] _ rfl (by kernel_rfl) (by kernel_rfl) (VM.out W19 (LA.out _ B22.out.1).err) (fun e W23 hR => ?_)
      obtain ⟨rfl, hb⟩ := hR
      refine ⟨_, rfl, ?_⟩
      simp only [Act.put, List.setIfInBounds_toArray, List.set_cons_zero, List.set_cons_succ]
      have K24 := Lib.hid (K20.out.below hb)
      have K25 := Lib.hid (K21.out.below hb)
      have B26 := Lib.hid (B22.out.call hb)
      clear hb
      refine Segs.WL.val (some 35) (.bool false) W23 rfl (by kernel_rfl) (by kernel_rfl) ?_
      simp only [Act.put, List.setIfInBounds_toArray, List.set_cons_zero, List.set_cons_succ]
      refine Segs.WL.val (some 36) (.bool false) W23 rfl (by kernel_rfl) (by kernel_rfl) ?_
      simp only [Act.put, List.setIfInBounds_toArray, List.set_cons_zero, List.set_cons_succ]
      refine Segs.WL.val (some 37) (.bool false) W23 rfl (by kernel_rfl) (by kernel_rfl) ?_
      simp only [Act.put, List.setIfInBounds_toArray, List.set_cons_zero, List.set_cons_succ]
      refine Segs.WL.val (some 38) (.pointer (some ⟨w.heap.size, 0, none⟩)) W23 rfl (by kernel_rfl) (by kernel_rfl) ?_
      simp only [Act.put, List.setIfInBounds_toArray, List.set_cons_zero, List.set_cons_succ]
      refine Segs.WL.val (some 39) (.int .i64 k0) W23 rfl (by kernel_rfl) (Segs.run_cell 22 (.tmp 38) rfl w.heap.size 0 (by kernel_rfl) _ (isAggKind _) (by rw [K24.out.cell]; exact HK0.out)) ?_
      simp only [Act.put, List.setIfInBounds_toArray, List.set_cons_zero, List.set_cons_succ]
      refine Segs.WL.val (some 40) (.bool (decide (k0 = 0))) W23 rfl (by kernel_rfl) (by kernel_rfl) ?_
      simp only [Act.put, List.setIfInBounds_toArray, List.set_cons_zero, List.set_cons_succ]
      rw [DK0.out]
      refine Segs.WL.val (some 41) (.bool false) W23 rfl (by kernel_rfl) (by kernel_rfl) ?_
      simp only [Act.put, List.setIfInBounds_toArray, List.set_cons_zero, List.set_cons_succ]
      refine Segs.WL.val (some 42) (.bool false) W23 rfl (by kernel_rfl) (by kernel_rfl) ?_
      simp only [Act.put, List.setIfInBounds_toArray, List.set_cons_zero, List.set_cons_succ]
      refine Segs.WL.val (some 43) (.pointer (some ⟨(w.heap.size + 1), 0, none⟩)) W23 rfl (by kernel_rfl) (by kernel_rfl) ?_
      simp only [Act.put, List.setIfInBounds_toArray, List.set_cons_zero, List.set_cons_succ]
      refine Segs.WL.val (some 44) (.int .i64 k1) W23 rfl (by kernel_rfl) (Segs.run_cell 22 (.tmp 43) rfl (w.heap.size + 1) 0 (by kernel_rfl) _ (isAggKind _) (by rw [K25.out.cell]; exact HK1.out)) ?_
      simp only [Act.put, List.setIfInBounds_toArray, List.set_cons_zero, List.set_cons_succ]
      refine Segs.WL.val (some 45) (.bool (decide (k1 = 0))) W23 rfl (by kernel_rfl) (by kernel_rfl) ?_
      simp only [Act.put, List.setIfInBounds_toArray, List.set_cons_zero, List.set_cons_succ]
      rw [DK1.out]
      refine Segs.WL.val (some 46) (.bool false) W23 rfl (by kernel_rfl) (by kernel_rfl) ?_
      simp only [Act.put, List.setIfInBounds_toArray, List.set_cons_zero, List.set_cons_succ]
      refine Segs.WL.nil ?_
      go_upto_region 7 with (fail)
      refine wp_region_lit (Segs.WL.out ?_)
      refine Segs.WL.val (some 49) (.agg CS) W23 rfl (by kernel_rfl) (Segs.run_row 25 (.tmp 2) rfl w.heap.size (by kernel_rfl) 25 CS _ K24.out Tryd.underlying25 rfl (info19 (NCS.out.size))) ?_
      simp only [Act.put, List.setIfInBounds_toArray, List.set_cons_zero, List.set_cons_succ]
      refine Segs.WL.call (some 50) 10 #[.agg CS] _ rfl (by kernel_rfl) (by kernel_rfl) (PN.out W23 (LA.out _ B26.out.1).err) (fun e W27 hR => ?_)
      obtain ⟨rfl, hb⟩ := hR
      refine ⟨_, rfl, ?_⟩
      simp only [Act.put, List.setIfInBounds_toArray, List.set_cons_zero, List.set_cons_succ]
      have K28 := Lib.hid (K24.out.below hb)
      have K29 := Lib.hid (K25.out.below hb)
      have B30 := Lib.hid (B26.out.call hb)
      clear hb
      refine Segs.WL.val (some 48) (.tuple #[.string S, .int .i64 0]) W27 rfl (by kernel_rfl) (by kernel_rfl) ?_
      simp only [Act.put, List.setIfInBounds_toArray, List.set_cons_zero, List.set_cons_succ]
      refine Segs.WL.val (some 51) (.string S) W27 rfl (by kernel_rfl) (by kernel_rfl) ?_
      simp only [Act.put, List.setIfInBounds_toArray, List.set_cons_zero, List.set_cons_succ]
      refine Segs.WL.val (some 52) (.int .i64 0) W27 rfl (by kernel_rfl) (by kernel_rfl) ?_
      simp only [Act.put, List.setIfInBounds_toArray, List.set_cons_zero, List.set_cons_succ]
      refine Segs.WL.val (some 7) (.string S) W27 rfl (by kernel_rfl) (by kernel_rfl) ?_
      simp only [Act.put, List.setIfInBounds_toArray, List.set_cons_zero, List.set_cons_succ]
      refine Segs.WL.val (some 8) (.int .i64 0) W27 rfl (by kernel_rfl) (by kernel_rfl) ?_
      simp only [Act.put, List.setIfInBounds_toArray, List.set_cons_zero, List.set_cons_succ]
      refine Segs.WL.nil ?_
      go_upto_region 8 with (fail)
      refine wp_region_lit (Segs.WL.out ?_)
      refine Segs.WL.val (some 54) (.agg CM) W27 rfl (by kernel_rfl) (Segs.run_row 25 (.tmp 3) rfl (w.heap.size + 1) (by kernel_rfl) 25 CM _ K29.out Tryd.underlying25 rfl (info19 (NCM.out.size))) ?_
      simp only [Act.put, List.setIfInBounds_toArray, List.set_cons_zero, List.set_cons_succ]
      refine Segs.WL.call (some 55) 10 #[.agg CM] _ rfl (by kernel_rfl) (by kernel_rfl) (PM.out W27 (LA.out _ B30.out.1).err) (fun e W31 hR => ?_)
      obtain ⟨rfl, hb⟩ := hR
      refine ⟨_, rfl, ?_⟩
      simp only [Act.put, List.setIfInBounds_toArray, List.set_cons_zero, List.set_cons_succ]
      have K32 := Lib.hid (K28.out.below hb)
      have K33 := Lib.hid (K29.out.below hb)
      have B34 := Lib.hid (B30.out.call hb)
      clear hb
      refine Segs.WL.val (some 53) (.tuple #[.string T, .int .i64 0]) W31 rfl (by kernel_rfl) (by kernel_rfl) ?_
      simp only [Act.put, List.setIfInBounds_toArray, List.set_cons_zero, List.set_cons_succ]
      refine Segs.WL.val (some 56) (.string T) W31 rfl (by kernel_rfl) (by kernel_rfl) ?_
      simp only [Act.put, List.setIfInBounds_toArray, List.set_cons_zero, List.set_cons_succ]
      refine Segs.WL.val (some 57) (.int .i64 0) W31 rfl (by kernel_rfl) (by kernel_rfl) ?_
      simp only [Act.put, List.setIfInBounds_toArray, List.set_cons_zero, List.set_cons_succ]
      refine Segs.WL.val (some 9) (.string T) W31 rfl (by kernel_rfl) (by kernel_rfl) ?_
      simp only [Act.put, List.setIfInBounds_toArray, List.set_cons_zero, List.set_cons_succ]
      refine Segs.WL.val (some 10) (.int .i64 0) W31 rfl (by kernel_rfl) (by kernel_rfl) ?_
      simp only [Act.put, List.setIfInBounds_toArray, List.set_cons_zero, List.set_cons_succ]
      refine Segs.WL.nil ?_
      go_upto_region 9 with (fail)
      refine wp_region_lit (Segs.WL.out ?_)
      refine Segs.WL.val (some 58) (.string S) W31 rfl (by kernel_rfl) (by kernel_rfl) ?_
      simp only [Act.put, List.setIfInBounds_toArray, List.set_cons_zero, List.set_cons_succ]
      refine Segs.WL.call (some 59) 13 #[.string S] _ rfl (by kernel_rfl) (by kernel_rfl) (REF.out W31 (LA.out _ B34.out.1).sha) (fun e W35 hR => ?_)
      obtain ⟨rfl, hb⟩ := hR
      refine ⟨_, rfl, ?_⟩
      simp only [Act.put, List.setIfInBounds_toArray, List.set_cons_zero, List.set_cons_succ]
      have K36 := Lib.hid (K32.out.below hb)
      have K37 := Lib.hid (K33.out.below hb)
      have B38 := Lib.hid (B34.out.call hb)
      clear hb
      refine Segs.WL.val (some 11) (.string A) W35 rfl (by kernel_rfl) (by kernel_rfl) ?_
      simp only [Act.put, List.setIfInBounds_toArray, List.set_cons_zero, List.set_cons_succ]
      refine Segs.WL.nil ?_
      go_upto_region 10 with (fail)
      refine wp_region_lit (Segs.WL.out ?_)
      refine Segs.WL.val (some 61) (.string A) W35 rfl (by kernel_rfl) (by kernel_rfl) ?_
      simp only [Act.put, List.setIfInBounds_toArray, List.set_cons_zero, List.set_cons_succ]
      refine Segs.WL.call (some 62) 14 #[.string A] _ rfl (by kernel_rfl) (by kernel_rfl) (HASH.out W35) (fun e W39 hR => ?_)
      obtain ⟨rfl, hb⟩ := hR
      refine ⟨_, rfl, ?_⟩
      simp only [Act.put, List.setIfInBounds_toArray, List.set_cons_zero, List.set_cons_succ]
      have K40 := Lib.hid (K36.out.below hb)
      have K41 := Lib.hid (K37.out.below hb)
      have B42 := Lib.hid (B38.out.call hb)
      clear hb
      refine Segs.WL.val (some 60) (.tuple #[.string H, .bool false]) W39 rfl (by kernel_rfl) (by kernel_rfl) ?_
      simp only [Act.put, List.setIfInBounds_toArray, List.set_cons_zero, List.set_cons_succ]
      refine Segs.WL.val (some 63) (.string H) W39 rfl (by kernel_rfl) (by kernel_rfl) ?_
      simp only [Act.put, List.setIfInBounds_toArray, List.set_cons_zero, List.set_cons_succ]
      refine Segs.WL.val (some 64) (.bool false) W39 rfl (by kernel_rfl) (by kernel_rfl) ?_
      simp only [Act.put, List.setIfInBounds_toArray, List.set_cons_zero, List.set_cons_succ]
      refine Segs.WL.val (some 12) (.string H) W39 rfl (by kernel_rfl) (by kernel_rfl) ?_
      simp only [Act.put, List.setIfInBounds_toArray, List.set_cons_zero, List.set_cons_succ]
      refine Segs.WL.val (some 13) (.bool false) W39 rfl (by kernel_rfl) (by kernel_rfl) ?_
      simp only [Act.put, List.setIfInBounds_toArray, List.set_cons_zero, List.set_cons_succ]
      refine Segs.WL.nil ?_
      go_upto_region 11 with (fail)
      refine wp_region_lit (Segs.WL.out ?_)
      refine Segs.WL.val (some 66) (.string A) W39 rfl (by kernel_rfl) (by kernel_rfl) ?_
      simp only [Act.put, List.setIfInBounds_toArray, List.set_cons_zero, List.set_cons_succ]
      refine Segs.WL.call (some 67) 15 #[.string A] _ rfl (by kernel_rfl) (by kernel_rfl) (INL.out W39 (LA.out _ B42.out.1).err) (fun e W43 hR => ?_)
      obtain ⟨rfl, hb⟩ := hR
      refine ⟨_, rfl, ?_⟩
      simp only [Act.put, List.setIfInBounds_toArray, List.set_cons_zero, List.set_cons_succ]
      have K44 := Lib.hid (K40.out.below hb)
      have K45 := Lib.hid (K41.out.below hb)
      have B46 := Lib.hid (B42.out.call hb)
      clear hb
      refine Segs.WL.val (some 65) (.tuple #[.agg CS, .bool true]) W43 rfl (by kernel_rfl) (by kernel_rfl) ?_
      simp only [Act.put, List.setIfInBounds_toArray, List.set_cons_zero, List.set_cons_succ]
      refine Segs.WL.val (some 68) (.agg CS) W43 rfl (by kernel_rfl) (by kernel_rfl) ?_
      simp only [Act.put, List.setIfInBounds_toArray, List.set_cons_zero, List.set_cons_succ]
      refine Segs.WL.val (some 69) (.bool true) W43 rfl (by kernel_rfl) (by kernel_rfl) ?_
      simp only [Act.put, List.setIfInBounds_toArray, List.set_cons_zero, List.set_cons_succ]
      obtain ⟨bx, hbx⟩ : ∃ n, n = W43.heap.size := ⟨_, rfl⟩
      have K48 := Lib.hid (K44.out.alloc (.cells Z0 25))
      have ne49 : w.heap.size ≠ bx := by have := K44.out.lt; omega
      have K50 := Lib.hid (K45.out.alloc (.cells Z0 25))
      have ne51 : (w.heap.size + 1) ≠ bx := by have := K45.out.lt; omega
      have K52 := Lib.hid (by have := Blk.new W43 25 Z0; rw [← hbx] at this; exact this : Blk (W43.alloc (.cells Z0 25)) bx 25 Z0)
      have B53 := Lib.hid (B46.out.alloc (.cells Z0 25))
      have ge54 : w.heap.size ≤ bx := by rw [hbx]; exact B46.out.2
      refine Segs.WL.val (some 14) (.pointer (some ⟨bx, 0, none⟩)) (W43.alloc (.cells Z0 25)) rfl (by kernel_rfl) (by rw [hbx]; exact Segs.run_allocOf rfl Z0 (al_nd0 HZ.out)) ?_
      simp only [Act.put, List.setIfInBounds_toArray, List.set_cons_zero, List.set_cons_succ]
      generalize W43.alloc (.cells Z0 25) = W47 at K48 K50 K52 B53 ⊢
      clear hbx
      have K56 := Lib.hid (K48.out.rowOther (g' := bx) (cs := CS) ne49)
      have K57 := Lib.hid (K50.out.rowOther (g' := bx) (cs := CS) ne51)
      have K58 := Lib.hid (K52.out.row (cs := CS))
      have B59 := Lib.hid (Bl.setRow B53.out (g := bx) ge54 CS)
      refine Segs.WL.skip (W47.setRow bx CS) rfl (by kernel_rfl) (Segs.run_storeRow rfl bx CS (by kernel_rfl) (by kernel_rfl) 25 Z0 K52.out (info19 NCS.out.size) (NZ.out.size.trans NCS.out.size.symm) NCS.out.one) ?_
      generalize W47.setRow bx CS = W55 at K56 K57 K58 B59 ⊢
      refine Segs.WL.val (some 15) (.bool true) W55 rfl (by kernel_rfl) (by kernel_rfl) ?_
      simp only [Act.put, List.setIfInBounds_toArray, List.set_cons_zero, List.set_cons_succ]
      refine Segs.WL.nil ?_
      go_upto_region 12 with (fail)
      refine wp_region_lit (Segs.WL.out ?_)
      refine Segs.WL.val (some 70) (.bool false) W55 rfl (by kernel_rfl) (by kernel_rfl) ?_
      simp only [Act.put, List.setIfInBounds_toArray, List.set_cons_zero, List.set_cons_succ]
      refine Segs.WL.val (some 71) (.bool true) W55 rfl (by kernel_rfl) (by kernel_rfl) ?_
      simp only [Act.put, List.setIfInBounds_toArray, List.set_cons_zero, List.set_cons_succ]
      refine Segs.WL.val (some 72) (.bool false) W55 rfl (by kernel_rfl) (by kernel_rfl) ?_
      simp only [Act.put, List.setIfInBounds_toArray, List.set_cons_zero, List.set_cons_succ]
      refine Segs.WL.val (some 73) (.bool false) W55 rfl (by kernel_rfl) (by kernel_rfl) ?_
      simp only [Act.put, List.setIfInBounds_toArray, List.set_cons_zero, List.set_cons_succ]
      refine Segs.WL.val (some 74) (.bool true) W55 rfl (by kernel_rfl) (by kernel_rfl) ?_
      simp only [Act.put, List.setIfInBounds_toArray, List.set_cons_zero, List.set_cons_succ]
      refine Segs.WL.val (some 75) (.bool true) W55 rfl (by kernel_rfl) (by kernel_rfl) ?_
      simp only [Act.put, List.setIfInBounds_toArray, List.set_cons_zero, List.set_cons_succ]
      refine Segs.WL.val (some 76) (.agg CS) W55 rfl (by kernel_rfl) (Segs.run_row 25 (.tmp 14) rfl bx (by kernel_rfl) 25 CS _ K58.out Tryd.underlying25 rfl (info19 (NCS.out.size))) ?_
      simp only [Act.put, List.setIfInBounds_toArray, List.set_cons_zero, List.set_cons_succ]
      refine Segs.WL.val (some 77) (.agg CS) W55 rfl (by kernel_rfl) (Segs.run_row 25 (.tmp 2) rfl w.heap.size (by kernel_rfl) 25 CS _ K56.out Tryd.underlying25 rfl (info19 (NCS.out.size))) ?_
      simp only [Act.put, List.setIfInBounds_toArray, List.set_cons_zero, List.set_cons_succ]
      refine Segs.WL.val (some 78) (.bool !true) W55 rfl (by kernel_rfl) (run_neq_of rfl CS CS HCS.out HCS.out (by kernel_rfl) (by kernel_rfl) h16 h16 true (decide_eq_true rfl)) ?_
      simp only [Act.put, List.setIfInBounds_toArray, List.set_cons_zero, List.set_cons_succ]
      refine Segs.WL.val (some 79) (.bool false) W55 rfl (by kernel_rfl) (by kernel_rfl) ?_
      simp only [Act.put, List.setIfInBounds_toArray, List.set_cons_zero, List.set_cons_succ]
      refine Segs.WL.val (some 80) (.bool false) W55 rfl (by kernel_rfl) (by kernel_rfl) ?_
      simp only [Act.put, List.setIfInBounds_toArray, List.set_cons_zero, List.set_cons_succ]
      refine Segs.WL.val (some 81) (.bool false) W55 rfl (by kernel_rfl) (by kernel_rfl) ?_
      simp only [Act.put, List.setIfInBounds_toArray, List.set_cons_zero, List.set_cons_succ]
      refine Segs.WL.val (some 82) (.bool false) W55 rfl (by kernel_rfl) (by kernel_rfl) ?_
      simp only [Act.put, List.setIfInBounds_toArray, List.set_cons_zero, List.set_cons_succ]
      refine Segs.WL.val (some 83) (.bool false) W55 rfl (by kernel_rfl) (by kernel_rfl) ?_
      simp only [Act.put, List.setIfInBounds_toArray, List.set_cons_zero, List.set_cons_succ]
      refine Segs.WL.not (some 84) rfl (by kernel_rfl) ?_
      simp only [Act.put, List.setIfInBounds_toArray, List.set_cons_zero, List.set_cons_succ]
      refine Segs.WL.not (some 85) rfl (by kernel_rfl) ?_
      simp only [Act.put, List.setIfInBounds_toArray, List.set_cons_zero, List.set_cons_succ]
      refine Segs.WL.not (some 86) rfl (by kernel_rfl) ?_
      simp only [Act.put, List.setIfInBounds_toArray, List.set_cons_zero, List.set_cons_succ]
      refine Segs.WL.not (some 87) rfl (by kernel_rfl) ?_
      simp only [Act.put, List.setIfInBounds_toArray, List.set_cons_zero, List.set_cons_succ]
      refine Segs.WL.not (some 88) rfl (by kernel_rfl) ?_
      simp only [Act.put, List.setIfInBounds_toArray, List.set_cons_zero, List.set_cons_succ]
      refine Segs.WL.val (some 89) (.bool false) W55 rfl (by kernel_rfl) (by kernel_rfl) ?_
      simp only [Act.put, List.setIfInBounds_toArray, List.set_cons_zero, List.set_cons_succ]
      refine Segs.WL.val (some 90) (.bool false) W55 rfl (by kernel_rfl) (by kernel_rfl) ?_
      simp only [Act.put, List.setIfInBounds_toArray, List.set_cons_zero, List.set_cons_succ]
      refine Segs.WL.val (some 91) (.bool false) W55 rfl (by kernel_rfl) (by kernel_rfl) ?_
      simp only [Act.put, List.setIfInBounds_toArray, List.set_cons_zero, List.set_cons_succ]
      refine Segs.WL.val (some 92) (.bool true) W55 rfl (by kernel_rfl) (by kernel_rfl) ?_
      simp only [Act.put, List.setIfInBounds_toArray, List.set_cons_zero, List.set_cons_succ]
      refine Segs.WL.val (some 93) (.string S) W55 rfl (by kernel_rfl) (by kernel_rfl) ?_
      simp only [Act.put, List.setIfInBounds_toArray, List.set_cons_zero, List.set_cons_succ]
      refine Segs.WL.val (some 94) (.int .i64 ((S.size : Int))) W55 rfl (by kernel_rfl) (by kernel_rfl) ?_
      simp only [Act.put, List.setIfInBounds_toArray, List.set_cons_zero, List.set_cons_succ]
      refine Segs.WL.val (some 95) (.bool (decide ((S.size : Int) < (32 : Int)))) W55 rfl (by kernel_rfl) (by kernel_rfl) ?_
      simp only [Act.put, List.setIfInBounds_toArray, List.set_cons_zero, List.set_cons_succ]
      rw [HLT.out]
      refine Segs.WL.val (some 96) (.bool false) W55 rfl (by kernel_rfl) (by kernel_rfl) ?_
      simp only [Act.put, List.setIfInBounds_toArray, List.set_cons_zero, List.set_cons_succ]
      refine Segs.WL.val (some 97) (.bool false) W55 rfl (by kernel_rfl) (by kernel_rfl) ?_
      simp only [Act.put, List.setIfInBounds_toArray, List.set_cons_zero, List.set_cons_succ]
      refine Segs.WL.nil ?_
      go_upto_region 14 with (fail)
      refine Segs.wp_region_segs Segs.Hist [false, false, false, false, false, false, false, false, false, false, false, false, false, false, false, false, false] Segs.Hist.refl Segs.Hist.trans (by kernel_rfl) (by kernel_rfl) (by kernel_rfl) (Segs.WM.out ?_)
      have K61 := Lib.hid (show Blk W55.drew w.heap.size 25 CS from K56.out)
      have K62 := Lib.hid (show Blk W55.drew (w.heap.size + 1) 25 CM from K57.out)
      have K63 := Lib.hid (show Blk W55.drew bx 25 CS from K58.out)
      have B64 := Lib.hid B59.out.drew
      generalize W55.drew = W60 at K61 K62 K63 B64 ⊢
      refine Segs.WM.val (some 98) (.bool true) rfl (by kernel_rfl) (fun WW h => by kernel_rfl) ?_
      simp only [Act.put, List.setIfInBounds_toArray, List.set_cons_zero, List.set_cons_succ]
      refine Segs.WM.val (some 99) (.bool true) rfl (by kernel_rfl) (fun WW h => by kernel_rfl) ?_
      simp only [Act.put, List.setIfInBounds_toArray, List.set_cons_zero, List.set_cons_succ]
      refine Segs.WM.val (some 100) (.string A) rfl (by kernel_rfl) (fun WW h => by kernel_rfl) ?_
      simp only [Act.put, List.setIfInBounds_toArray, List.set_cons_zero, List.set_cons_succ]
      refine Segs.WM.val (some 101) (.string T) rfl (by kernel_rfl) (fun WW h => by kernel_rfl) ?_
      simp only [Act.put, List.setIfInBounds_toArray, List.set_cons_zero, List.set_cons_succ]
      refine Segs.WM.call (some 102) 13 #[.string T] (.string AT) rfl (by kernel_rfl) (fun W => by kernel_rfl) (fun WW h => REFT.out WW (LA.out _ (Lib.hid (B64.out.call h)).out.1).sha) ?_
      simp only [Act.put, List.setIfInBounds_toArray, List.set_cons_zero, List.set_cons_succ]
      refine Segs.WM.val (some 103) (.bool false) rfl (by kernel_rfl) (fun WW h => run_eqs rfl A AT (by kernel_rfl) (by kernel_rfl) false (HAE.out)) ?_
      simp only [Act.put, List.setIfInBounds_toArray, List.set_cons_zero, List.set_cons_succ]
      refine Segs.WM.val (some 104) (.agg CS) rfl (by kernel_rfl) (fun WW h => Segs.run_row 25 (.tmp 2) rfl w.heap.size (by kernel_rfl) 25 CS _ (Lib.hid (K61.out.below h)).out Tryd.underlying25 rfl (info19 (NCS.out.size))) ?_
      simp only [Act.put, List.setIfInBounds_toArray, List.set_cons_zero, List.set_cons_succ]
      refine Segs.WM.val (some 105) (.agg CM) rfl (by kernel_rfl) (fun WW h => Segs.run_row 25 (.tmp 3) rfl (w.heap.size + 1) (by kernel_rfl) 25 CM _ (Lib.hid (K62.out.below h)).out Tryd.underlying25 rfl (info19 (NCM.out.size))) ?_
      simp only [Act.put, List.setIfInBounds_toArray, List.set_cons_zero, List.set_cons_succ]
      refine Segs.WM.val (some 106) (.bool false) rfl (by kernel_rfl) (fun WW h => run_eql_of rfl CS CM HCS.out HCM.out (by kernel_rfl) (by kernel_rfl) h16 g16 false (HNE.out)) ?_
      simp only [Act.put, List.setIfInBounds_toArray, List.set_cons_zero, List.set_cons_succ]
      refine Segs.WM.val (some 107) (.bool true) rfl (by kernel_rfl) (fun WW h => by kernel_rfl) ?_
      simp only [Act.put, List.setIfInBounds_toArray, List.set_cons_zero, List.set_cons_succ]
      refine Segs.WM.val (some 108) (.bool true) rfl (by kernel_rfl) (fun WW h => by kernel_rfl) ?_
      simp only [Act.put, List.setIfInBounds_toArray, List.set_cons_zero, List.set_cons_succ]
      refine Segs.WM.not (some 109) rfl (by kernel_rfl) ?_
      simp only [Act.put, List.setIfInBounds_toArray, List.set_cons_zero, List.set_cons_succ]
      refine Segs.WM.not (some 110) rfl (by kernel_rfl) ?_
      simp only [Act.put, List.setIfInBounds_toArray, List.set_cons_zero, List.set_cons_succ]
      refine Segs.WM.not (some 111) rfl (by kernel_rfl) ?_
      simp only [Act.put, List.setIfInBounds_toArray, List.set_cons_zero, List.set_cons_succ]
      refine Segs.WM.val (some 112) (.bool true) rfl (by kernel_rfl) (fun WW h => by kernel_rfl) ?_
      simp only [Act.put, List.setIfInBounds_toArray, List.set_cons_zero, List.set_cons_succ]
      refine Segs.WM.val (some 113) (.bool true) rfl (by kernel_rfl) (fun WW h => by kernel_rfl) ?_
      simp only [Act.put, List.setIfInBounds_toArray, List.set_cons_zero, List.set_cons_succ]
      refine Segs.WM.val (some 4) (.bool true) rfl (by kernel_rfl) (fun WW h => by kernel_rfl) ?_
      simp only [Act.put, List.setIfInBounds_toArray, List.set_cons_zero, List.set_cons_succ]
      refine Segs.WM.fin (fun W65 hx => ?_)
      have K66 := Lib.hid (K61.out.below hx)
      have K67 := Lib.hid (K62.out.below hx)
      have K68 := Lib.hid (K63.out.below hx)
      have B69 := Lib.hid (B64.out.call hx)
      clear hx
      go_wp2_with fail
      go_ret
      exact ⟨rfl, B69.out.1⟩
  have HLT := Lib.hid (show decide (((bytesB a0).size : Int) < (32 : Int)) = false by simp; omega)
  rw [hash_big hs] at hash
  rw [in_big hs] at inl
  obtain ⟨H, hH⟩ : ∃ z, z = shaB (bytesB a0) := ⟨_, rfl⟩
  simp only [Option.getD_none, Option.getD_some, Option.isSome_none, Option.isSome_some] at hash inl
  rw [← hZ0] at inl
  rw [← hH] at hash ofs
  have hX := hZ0
  by_cases hne : a0 = a1
  · have hae : refB (bytesB a0) = refB (bytesB a1) := by rw [hne]
    have HNE := Lib.hid (show decide (a0 = a1) = true from decide_eq_true hne)
    have HAE := Lib.hid (show decide (refB (bytesB a0) = refB (bytesB a1)) = true from decide_eq_true hae)
    obtain ⟨A, hA⟩ : ∃ z, z = refB (bytesB a0) := ⟨_, rfl⟩
    obtain ⟨AT, hAT⟩ : ∃ z, z = refB (bytesB a1) := ⟨_, rfl⟩
    obtain ⟨S, hS⟩ : ∃ z, z = bytesB a0 := ⟨_, rfl⟩
    obtain ⟨T, hT⟩ : ∃ z, z = bytesB a1 := ⟨_, rfl⟩
    rw [← hA] at ref hash inl HAE
    rw [← hAT] at reft HAE
    rw [← hS] at putn ref col HLT ofs
    rw [← hT] at putm reft col
    have PN := Lib.hid putn
    have PM := Lib.hid putm
    have REF := Lib.hid ref
    have REFT := Lib.hid reft
    have HASH := Lib.hid hash
    have INL := Lib.hid inl
    have OF := Lib.hid ofs
    have COL := Lib.hid col
    clear hl fewn fewm hCS hCM hZ0 hfn hfm w0 w1 vn vm putn putm hvn hvm hk hk' hk00 hk10 ref reft hash inl col ofs tell ins bz bz' hs hS hT hA hAT hne hH hX hae
    have B0 := Lib.hid (Bl.start w)
    have K1 := Lib.hid (by have := Blk.new (w) 25 CS; simpa using this : Blk ((w).alloc (.cells CS 25)) w.heap.size 25 CS)
    have B2 := Lib.hid (B0.out.alloc (.cells CS 25))
    have K3 := Lib.hid (K1.out.alloc (.cells CM 25))
    have K4 := Lib.hid (by have := Blk.new (w.alloc (.cells CS 25)) 25 CM; simpa using this : Blk ((w.alloc (.cells CS 25)).alloc (.cells CM 25)) (w.heap.size + 1) 25 CM)
    have B5 := Lib.hid (B2.out.alloc (.cells CM 25))
    go_enter Tryd.func4, Tryd.ntmps4
    go_upto_region 1 with (fail)
    generalize (w.alloc (.cells CS 25)).alloc (.cells CM 25) = W6 at K3 K4 B5 ⊢
    refine wp_region_lit (Segs.WL.out ?_)
    refine Segs.WL.call (some 16) 8 #[] _ rfl (by kernel_rfl) (by kernel_rfl) (WK.out W6 (LA.out _ B5.out.1)) (fun e W7 hR => ?_)
    obtain ⟨rfl, hb⟩ := hR
    refine ⟨_, rfl, ?_⟩
    simp only [Act.put, List.setIfInBounds_toArray, List.set_cons_zero, List.set_cons_succ]
    have K8 := Lib.hid (K3.out.below hb)
    have K9 := Lib.hid (K4.out.below hb)
    have B10 := Lib.hid (B5.out.call hb)
    clear hb
    refine Segs.WL.val (some 5) (.bool true) W7 rfl (by kernel_rfl) (by kernel_rfl) ?_
    simp only [Act.put, List.setIfInBounds_toArray, List.set_cons_zero, List.set_cons_succ]
    refine Segs.WL.nil ?_
    go_upto_region 2 with (fail)
    refine wp_region_lit (Segs.WL.out ?_)
    refine Segs.WL.val (some 17) (.bool true) W7 rfl (by kernel_rfl) (by kernel_rfl) ?_
    simp only [Act.put, List.setIfInBounds_toArray, List.set_cons_zero, List.set_cons_succ]
    refine Segs.WL.val (some 18) (.bool false) W7 rfl (by kernel_rfl) (by kernel_rfl) ?_
    simp only [Act.put, List.setIfInBounds_toArray, List.set_cons_zero, List.set_cons_succ]
    refine Segs.WL.nil ?_
    go_upto_region 4 with (fail)
    refine wp_region_lit (Segs.WL.out ?_)
    refine Segs.WL.val (some 19) (.agg CS) W7 rfl (by kernel_rfl) (Segs.run_row 25 (.tmp 2) rfl w.heap.size (by kernel_rfl) 25 CS _ K8.out Tryd.underlying25 rfl (info19 (NCS.out.size))) ?_
    simp only [Act.put, List.setIfInBounds_toArray, List.set_cons_zero, List.set_cons_succ]
    refine Segs.WL.call (some 20) 9 #[.agg CS] _ rfl (by kernel_rfl) (by kernel_rfl) (FEWN.out W7) (fun e W11 hR => ?_)
    obtain ⟨rfl, hb⟩ := hR
    refine ⟨_, rfl, ?_⟩
    simp only [Act.put, List.setIfInBounds_toArray, List.set_cons_zero, List.set_cons_succ]
    have K12 := Lib.hid (K8.out.below hb)
    have K13 := Lib.hid (K9.out.below hb)
    have B14 := Lib.hid (B10.out.call hb)
    clear hb
    refine Segs.WL.val (some 21) (.bool true) W11 rfl (by kernel_rfl) (by kernel_rfl) ?_
    simp only [Act.put, List.setIfInBounds_toArray, List.set_cons_zero, List.set_cons_succ]
    refine Segs.WL.val (some 22) (.agg CM) W11 rfl (by kernel_rfl) (Segs.run_row 25 (.tmp 3) rfl (w.heap.size + 1) (by kernel_rfl) 25 CM _ K13.out Tryd.underlying25 rfl (info19 (NCM.out.size))) ?_
    simp only [Act.put, List.setIfInBounds_toArray, List.set_cons_zero, List.set_cons_succ]
    refine Segs.WL.call (some 23) 9 #[.agg CM] _ rfl (by kernel_rfl) (by kernel_rfl) (FEWM.out W11) (fun e W15 hR => ?_)
    obtain ⟨rfl, hb⟩ := hR
    refine ⟨_, rfl, ?_⟩
    simp only [Act.put, List.setIfInBounds_toArray, List.set_cons_zero, List.set_cons_succ]
    have K16 := Lib.hid (K12.out.below hb)
    have K17 := Lib.hid (K13.out.below hb)
    have B18 := Lib.hid (B14.out.call hb)
    clear hb
    refine Segs.WL.val (some 24) (.bool true) W15 rfl (by kernel_rfl) (by kernel_rfl) ?_
    simp only [Act.put, List.setIfInBounds_toArray, List.set_cons_zero, List.set_cons_succ]
    refine Segs.WL.val (some 6) (.bool true) W15 rfl (by kernel_rfl) (by kernel_rfl) ?_
    simp only [Act.put, List.setIfInBounds_toArray, List.set_cons_zero, List.set_cons_succ]
    refine Segs.WL.nil ?_
    go_upto_region 5 with (fail)
    refine wp_region_lit (Segs.WL.out ?_)
    refine Segs.WL.val (some 25) (.bool true) W15 rfl (by kernel_rfl) (by kernel_rfl) ?_
    simp only [Act.put, List.setIfInBounds_toArray, List.set_cons_zero, List.set_cons_succ]
    refine Segs.WL.val (some 26) (.bool false) W15 rfl (by kernel_rfl) (by kernel_rfl) ?_
    simp only [Act.put, List.setIfInBounds_toArray, List.set_cons_zero, List.set_cons_succ]
    refine Segs.WL.val (some 27) (.bool false) W15 rfl (by kernel_rfl) (by kernel_rfl) ?_
    simp only [Act.put, List.setIfInBounds_toArray, List.set_cons_zero, List.set_cons_succ]
    refine Segs.WL.val (some 28) (.agg CS) W15 rfl (by kernel_rfl) (Segs.run_row 25 (.tmp 2) rfl w.heap.size (by kernel_rfl) 25 CS _ K16.out Tryd.underlying25 rfl (info19 (NCS.out.size))) ?_
    simp only [Act.put, List.setIfInBounds_toArray, List.set_cons_zero, List.set_cons_succ]
    refine Segs.WL.call (some 29) 12 #[.agg CS] _ rfl (by kernel_rfl) (by kernel_rfl) (VN.out W15 (LA.out _ B18.out.1).err) (fun e W19 hR => ?_)
    obtain ⟨rfl, hb⟩ := hR
    refine ⟨_, rfl, ?_⟩
    simp only [Act.put, List.setIfInBounds_toArray, List.set_cons_zero, List.set_cons_succ]
    have K20 := Lib.hid (K16.out.below hb)
    have K21 := Lib.hid (K17.out.below hb)
    have B22 := Lib.hid (B18.out.call hb)
    clear hb
    refine Segs.WL.val (some 30) (.bool false) W19 rfl (by kernel_rfl) (by kernel_rfl) ?_
    simp only [Act.put, List.setIfInBounds_toArray, List.set_cons_zero, List.set_cons_succ]
    refine Segs.WL.val (some 31) (.bool false) W19 rfl (by kernel_rfl) (by kernel_rfl) ?_
    simp only [Act.put, List.setIfInBounds_toArray, List.set_cons_zero, List.set_cons_succ]
    refine Segs.WL.val (some 32) (.bool false) W19 rfl (by kernel_rfl) (by kernel_rfl) ?_
    simp only [Act.put, List.setIfInBounds_toArray, List.set_cons_zero, List.set_cons_succ]
    refine Segs.WL.val (some 33) (.agg CM) W19 rfl (by kernel_rfl) (Segs.run_row 25 (.tmp 3) rfl (w.heap.size + 1) (by kernel_rfl) 25 CM _ K21.out Tryd.underlying25 rfl (info19 (NCM.out.size))) ?_
    simp only [Act.put, List.setIfInBounds_toArray, List.set_cons_zero, List.set_cons_succ]
    refine Segs.WL.call (some 34) 12 #[.agg CM] _ rfl (by kernel_rfl) (by kernel_rfl) (VM.out W19 (LA.out _ B22.out.1).err) (fun e W23 hR => ?_)
    obtain ⟨rfl, hb⟩ := hR
    refine ⟨_, rfl, ?_⟩
    simp only [Act.put, List.setIfInBounds_toArray, List.set_cons_zero, List.set_cons_succ]
    have K24 := Lib.hid (K20.out.below hb)
    have K25 := Lib.hid (K21.out.below hb)
    have B26 := Lib.hid (B22.out.call hb)
    clear hb
    refine Segs.WL.val (some 35) (.bool false) W23 rfl (by kernel_rfl) (by kernel_rfl) ?_
    simp only [Act.put, List.setIfInBounds_toArray, List.set_cons_zero, List.set_cons_succ]
    refine Segs.WL.val (some 36) (.bool false) W23 rfl (by kernel_rfl) (by kernel_rfl) ?_
    simp only [Act.put, List.setIfInBounds_toArray, List.set_cons_zero, List.set_cons_succ]
    refine Segs.WL.val (some 37) (.bool false) W23 rfl (by kernel_rfl) (by kernel_rfl) ?_
    simp only [Act.put, List.setIfInBounds_toArray, List.set_cons_zero, List.set_cons_succ]
    refine Segs.WL.val (some 38) (.pointer (some ⟨w.heap.size, 0, none⟩)) W23 rfl (by kernel_rfl) (by kernel_rfl) ?_
    simp only [Act.put, List.setIfInBounds_toArray, List.set_cons_zero, List.set_cons_succ]
    refine Segs.WL.val (some 39) (.int .i64 k0) W23 rfl (by kernel_rfl) (Segs.run_cell 22 (.tmp 38) rfl w.heap.size 0 (by kernel_rfl) _ (isAggKind _) (by rw [K24.out.cell]; exact HK0.out)) ?_
    simp only [Act.put, List.setIfInBounds_toArray, List.set_cons_zero, List.set_cons_succ]
    refine Segs.WL.val (some 40) (.bool (decide (k0 = 0))) W23 rfl (by kernel_rfl) (by kernel_rfl) ?_
    simp only [Act.put, List.setIfInBounds_toArray, List.set_cons_zero, List.set_cons_succ]
    rw [DK0.out]
    refine Segs.WL.val (some 41) (.bool false) W23 rfl (by kernel_rfl) (by kernel_rfl) ?_
    simp only [Act.put, List.setIfInBounds_toArray, List.set_cons_zero, List.set_cons_succ]
    refine Segs.WL.val (some 42) (.bool false) W23 rfl (by kernel_rfl) (by kernel_rfl) ?_
    simp only [Act.put, List.setIfInBounds_toArray, List.set_cons_zero, List.set_cons_succ]
    refine Segs.WL.val (some 43) (.pointer (some ⟨(w.heap.size + 1), 0, none⟩)) W23 rfl (by kernel_rfl) (by kernel_rfl) ?_
    simp only [Act.put, List.setIfInBounds_toArray, List.set_cons_zero, List.set_cons_succ]
    refine Segs.WL.val (some 44) (.int .i64 k1) W23 rfl (by kernel_rfl) (Segs.run_cell 22 (.tmp 43) rfl (w.heap.size + 1) 0 (by kernel_rfl) _ (isAggKind _) (by rw [K25.out.cell]; exact HK1.out)) ?_
    simp only [Act.put, List.setIfInBounds_toArray, List.set_cons_zero, List.set_cons_succ]
    refine Segs.WL.val (some 45) (.bool (decide (k1 = 0))) W23 rfl (by kernel_rfl) (by kernel_rfl) ?_
    simp only [Act.put, List.setIfInBounds_toArray, List.set_cons_zero, List.set_cons_succ]
    rw [DK1.out]
    refine Segs.WL.val (some 46) (.bool false) W23 rfl (by kernel_rfl) (by kernel_rfl) ?_
    simp only [Act.put, List.setIfInBounds_toArray, List.set_cons_zero, List.set_cons_succ]
    refine Segs.WL.nil ?_
    go_upto_region 7 with (fail)
    refine wp_region_lit (Segs.WL.out ?_)
    refine Segs.WL.val (some 49) (.agg CS) W23 rfl (by kernel_rfl) (Segs.run_row 25 (.tmp 2) rfl w.heap.size (by kernel_rfl) 25 CS _ K24.out Tryd.underlying25 rfl (info19 (NCS.out.size))) ?_
    simp only [Act.put, List.setIfInBounds_toArray, List.set_cons_zero, List.set_cons_succ]
    refine Segs.WL.call (some 50) 10 #[.agg CS] _ rfl (by kernel_rfl) (by kernel_rfl) (PN.out W23 (LA.out _ B26.out.1).err) (fun e W27 hR => ?_)
    obtain ⟨rfl, hb⟩ := hR
    refine ⟨_, rfl, ?_⟩
    simp only [Act.put, List.setIfInBounds_toArray, List.set_cons_zero, List.set_cons_succ]
    have K28 := Lib.hid (K24.out.below hb)
    have K29 := Lib.hid (K25.out.below hb)
    have B30 := Lib.hid (B26.out.call hb)
    clear hb
    refine Segs.WL.val (some 48) (.tuple #[.string S, .int .i64 0]) W27 rfl (by kernel_rfl) (by kernel_rfl) ?_
    simp only [Act.put, List.setIfInBounds_toArray, List.set_cons_zero, List.set_cons_succ]
    refine Segs.WL.val (some 51) (.string S) W27 rfl (by kernel_rfl) (by kernel_rfl) ?_
    simp only [Act.put, List.setIfInBounds_toArray, List.set_cons_zero, List.set_cons_succ]
    refine Segs.WL.val (some 52) (.int .i64 0) W27 rfl (by kernel_rfl) (by kernel_rfl) ?_
    simp only [Act.put, List.setIfInBounds_toArray, List.set_cons_zero, List.set_cons_succ]
    refine Segs.WL.val (some 7) (.string S) W27 rfl (by kernel_rfl) (by kernel_rfl) ?_
    simp only [Act.put, List.setIfInBounds_toArray, List.set_cons_zero, List.set_cons_succ]
    refine Segs.WL.val (some 8) (.int .i64 0) W27 rfl (by kernel_rfl) (by kernel_rfl) ?_
    simp only [Act.put, List.setIfInBounds_toArray, List.set_cons_zero, List.set_cons_succ]
    refine Segs.WL.nil ?_
    go_upto_region 8 with (fail)
    refine wp_region_lit (Segs.WL.out ?_)
    refine Segs.WL.val (some 54) (.agg CM) W27 rfl (by kernel_rfl) (Segs.run_row 25 (.tmp 3) rfl (w.heap.size + 1) (by kernel_rfl) 25 CM _ K29.out Tryd.underlying25 rfl (info19 (NCM.out.size))) ?_
    simp only [Act.put, List.setIfInBounds_toArray, List.set_cons_zero, List.set_cons_succ]
    refine Segs.WL.call (some 55) 10 #[.agg CM] _ rfl (by kernel_rfl) (by kernel_rfl) (PM.out W27 (LA.out _ B30.out.1).err) (fun e W31 hR => ?_)
    obtain ⟨rfl, hb⟩ := hR
    refine ⟨_, rfl, ?_⟩
    simp only [Act.put, List.setIfInBounds_toArray, List.set_cons_zero, List.set_cons_succ]
    have K32 := Lib.hid (K28.out.below hb)
    have K33 := Lib.hid (K29.out.below hb)
    have B34 := Lib.hid (B30.out.call hb)
    clear hb
    refine Segs.WL.val (some 53) (.tuple #[.string T, .int .i64 0]) W31 rfl (by kernel_rfl) (by kernel_rfl) ?_
    simp only [Act.put, List.setIfInBounds_toArray, List.set_cons_zero, List.set_cons_succ]
    refine Segs.WL.val (some 56) (.string T) W31 rfl (by kernel_rfl) (by kernel_rfl) ?_
    simp only [Act.put, List.setIfInBounds_toArray, List.set_cons_zero, List.set_cons_succ]
    refine Segs.WL.val (some 57) (.int .i64 0) W31 rfl (by kernel_rfl) (by kernel_rfl) ?_
    simp only [Act.put, List.setIfInBounds_toArray, List.set_cons_zero, List.set_cons_succ]
    refine Segs.WL.val (some 9) (.string T) W31 rfl (by kernel_rfl) (by kernel_rfl) ?_
    simp only [Act.put, List.setIfInBounds_toArray, List.set_cons_zero, List.set_cons_succ]
    refine Segs.WL.val (some 10) (.int .i64 0) W31 rfl (by kernel_rfl) (by kernel_rfl) ?_
    simp only [Act.put, List.setIfInBounds_toArray, List.set_cons_zero, List.set_cons_succ]
    refine Segs.WL.nil ?_
    go_upto_region 9 with (fail)
    refine wp_region_lit (Segs.WL.out ?_)
    refine Segs.WL.val (some 58) (.string S) W31 rfl (by kernel_rfl) (by kernel_rfl) ?_
    simp only [Act.put, List.setIfInBounds_toArray, List.set_cons_zero, List.set_cons_succ]
    refine Segs.WL.call (some 59) 13 #[.string S] _ rfl (by kernel_rfl) (by kernel_rfl) (REF.out W31 (LA.out _ B34.out.1).sha) (fun e W35 hR => ?_)
    obtain ⟨rfl, hb⟩ := hR
    refine ⟨_, rfl, ?_⟩
    simp only [Act.put, List.setIfInBounds_toArray, List.set_cons_zero, List.set_cons_succ]
    have K36 := Lib.hid (K32.out.below hb)
    have K37 := Lib.hid (K33.out.below hb)
    have B38 := Lib.hid (B34.out.call hb)
    clear hb
    refine Segs.WL.val (some 11) (.string A) W35 rfl (by kernel_rfl) (by kernel_rfl) ?_
    simp only [Act.put, List.setIfInBounds_toArray, List.set_cons_zero, List.set_cons_succ]
    refine Segs.WL.nil ?_
    go_upto_region 10 with (fail)
    refine wp_region_lit (Segs.WL.out ?_)
    refine Segs.WL.val (some 61) (.string A) W35 rfl (by kernel_rfl) (by kernel_rfl) ?_
    simp only [Act.put, List.setIfInBounds_toArray, List.set_cons_zero, List.set_cons_succ]
    refine Segs.WL.call (some 62) 14 #[.string A] _ rfl (by kernel_rfl) (by kernel_rfl) (HASH.out W35) (fun e W39 hR => ?_)
    obtain ⟨rfl, hb⟩ := hR
    refine ⟨_, rfl, ?_⟩
    simp only [Act.put, List.setIfInBounds_toArray, List.set_cons_zero, List.set_cons_succ]
    have K40 := Lib.hid (K36.out.below hb)
    have K41 := Lib.hid (K37.out.below hb)
    have B42 := Lib.hid (B38.out.call hb)
    clear hb
    refine Segs.WL.val (some 60) (.tuple #[.string H, .bool true]) W39 rfl (by kernel_rfl) (by kernel_rfl) ?_
    simp only [Act.put, List.setIfInBounds_toArray, List.set_cons_zero, List.set_cons_succ]
    refine Segs.WL.val (some 63) (.string H) W39 rfl (by kernel_rfl) (by kernel_rfl) ?_
    simp only [Act.put, List.setIfInBounds_toArray, List.set_cons_zero, List.set_cons_succ]
    refine Segs.WL.val (some 64) (.bool true) W39 rfl (by kernel_rfl) (by kernel_rfl) ?_
    simp only [Act.put, List.setIfInBounds_toArray, List.set_cons_zero, List.set_cons_succ]
    refine Segs.WL.val (some 12) (.string H) W39 rfl (by kernel_rfl) (by kernel_rfl) ?_
    simp only [Act.put, List.setIfInBounds_toArray, List.set_cons_zero, List.set_cons_succ]
    refine Segs.WL.val (some 13) (.bool true) W39 rfl (by kernel_rfl) (by kernel_rfl) ?_
    simp only [Act.put, List.setIfInBounds_toArray, List.set_cons_zero, List.set_cons_succ]
    refine Segs.WL.nil ?_
    go_upto_region 11 with (fail)
    refine wp_region_lit (Segs.WL.out ?_)
    refine Segs.WL.val (some 66) (.string A) W39 rfl (by kernel_rfl) (by kernel_rfl) ?_
    simp only [Act.put, List.setIfInBounds_toArray, List.set_cons_zero, List.set_cons_succ]
    refine Segs.WL.call (some 67) 15 #[.string A] _ rfl (by kernel_rfl) (by kernel_rfl) (INL.out W39 (LA.out _ B42.out.1).err) (fun e W43 hR => ?_)
    obtain ⟨rfl, hb⟩ := hR
    refine ⟨_, rfl, ?_⟩
    simp only [Act.put, List.setIfInBounds_toArray, List.set_cons_zero, List.set_cons_succ]
    have K44 := Lib.hid (K40.out.below hb)
    have K45 := Lib.hid (K41.out.below hb)
    have B46 := Lib.hid (B42.out.call hb)
    clear hb
    refine Segs.WL.val (some 65) (.tuple #[.agg Z0, .bool false]) W43 rfl (by kernel_rfl) (by kernel_rfl) ?_
    simp only [Act.put, List.setIfInBounds_toArray, List.set_cons_zero, List.set_cons_succ]
    refine Segs.WL.val (some 68) (.agg Z0) W43 rfl (by kernel_rfl) (by kernel_rfl) ?_
    simp only [Act.put, List.setIfInBounds_toArray, List.set_cons_zero, List.set_cons_succ]
    refine Segs.WL.val (some 69) (.bool false) W43 rfl (by kernel_rfl) (by kernel_rfl) ?_
    simp only [Act.put, List.setIfInBounds_toArray, List.set_cons_zero, List.set_cons_succ]
    obtain ⟨bx, hbx⟩ : ∃ n, n = W43.heap.size := ⟨_, rfl⟩
    have K48 := Lib.hid (K44.out.alloc (.cells Z0 25))
    have ne49 : w.heap.size ≠ bx := by have := K44.out.lt; omega
    have K50 := Lib.hid (K45.out.alloc (.cells Z0 25))
    have ne51 : (w.heap.size + 1) ≠ bx := by have := K45.out.lt; omega
    have K52 := Lib.hid (by have := Blk.new W43 25 Z0; rw [← hbx] at this; exact this : Blk (W43.alloc (.cells Z0 25)) bx 25 Z0)
    have B53 := Lib.hid (B46.out.alloc (.cells Z0 25))
    have ge54 : w.heap.size ≤ bx := by rw [hbx]; exact B46.out.2
    refine Segs.WL.val (some 14) (.pointer (some ⟨bx, 0, none⟩)) (W43.alloc (.cells Z0 25)) rfl (by kernel_rfl) (by rw [hbx]; exact Segs.run_allocOf rfl Z0 (al_nd0 HZ.out)) ?_
    simp only [Act.put, List.setIfInBounds_toArray, List.set_cons_zero, List.set_cons_succ]
    generalize W43.alloc (.cells Z0 25) = W47 at K48 K50 K52 B53 ⊢
    clear hbx
    have K56 := Lib.hid (K48.out.rowOther (g' := bx) (cs := Z0) ne49)
    have K57 := Lib.hid (K50.out.rowOther (g' := bx) (cs := Z0) ne51)
    have K58 := Lib.hid (K52.out.row (cs := Z0))
    have B59 := Lib.hid (Bl.setRow B53.out (g := bx) ge54 Z0)
    refine Segs.WL.skip (W47.setRow bx Z0) rfl (by kernel_rfl) (Segs.run_storeRow rfl bx Z0 (by kernel_rfl) (by kernel_rfl) 25 Z0 K52.out (info19 NZ.out.size) (NZ.out.size.trans NZ.out.size.symm) NZ.out.one) ?_
    generalize W47.setRow bx Z0 = W55 at K56 K57 K58 B59 ⊢
    refine Segs.WL.val (some 15) (.bool false) W55 rfl (by kernel_rfl) (by kernel_rfl) ?_
    simp only [Act.put, List.setIfInBounds_toArray, List.set_cons_zero, List.set_cons_succ]
    refine Segs.WL.nil ?_
    go_upto_region 12 with (fail)
    refine wp_region_lit (Segs.WL.out ?_)
    refine Segs.WL.val (some 70) (.bool true) W55 rfl (by kernel_rfl) (by kernel_rfl) ?_
    simp only [Act.put, List.setIfInBounds_toArray, List.set_cons_zero, List.set_cons_succ]
    refine Segs.WL.val (some 71) (.bool false) W55 rfl (by kernel_rfl) (by kernel_rfl) ?_
    simp only [Act.put, List.setIfInBounds_toArray, List.set_cons_zero, List.set_cons_succ]
    refine Segs.WL.val (some 72) (.bool false) W55 rfl (by kernel_rfl) (by kernel_rfl) ?_
    simp only [Act.put, List.setIfInBounds_toArray, List.set_cons_zero, List.set_cons_succ]
    refine Segs.WL.val (some 73) (.bool false) W55 rfl (by kernel_rfl) (by kernel_rfl) ?_
    simp only [Act.put, List.setIfInBounds_toArray, List.set_cons_zero, List.set_cons_succ]
    refine Segs.WL.val (some 74) (.bool false) W55 rfl (by kernel_rfl) (by kernel_rfl) ?_
    simp only [Act.put, List.setIfInBounds_toArray, List.set_cons_zero, List.set_cons_succ]
    refine Segs.WL.val (some 75) (.bool false) W55 rfl (by kernel_rfl) (by kernel_rfl) ?_
    simp only [Act.put, List.setIfInBounds_toArray, List.set_cons_zero, List.set_cons_succ]
    refine Segs.WL.not (some 76) rfl (by kernel_rfl) ?_
    simp only [Act.put, List.setIfInBounds_toArray, List.set_cons_zero, List.set_cons_succ]
    refine Segs.WL.not (some 77) rfl (by kernel_rfl) ?_
    simp only [Act.put, List.setIfInBounds_toArray, List.set_cons_zero, List.set_cons_succ]
    refine Segs.WL.not (some 78) rfl (by kernel_rfl) ?_
    simp only [Act.put, List.setIfInBounds_toArray, List.set_cons_zero, List.set_cons_succ]
    refine Segs.WL.val (some 79) (.bool false) W55 rfl (by kernel_rfl) (by kernel_rfl) ?_
    simp only [Act.put, List.setIfInBounds_toArray, List.set_cons_zero, List.set_cons_succ]
    refine Segs.WL.val (some 80) (.bool false) W55 rfl (by kernel_rfl) (by kernel_rfl) ?_
    simp only [Act.put, List.setIfInBounds_toArray, List.set_cons_zero, List.set_cons_succ]
    refine Segs.WL.val (some 81) (.bool false) W55 rfl (by kernel_rfl) (by kernel_rfl) ?_
    simp only [Act.put, List.setIfInBounds_toArray, List.set_cons_zero, List.set_cons_succ]
    refine Segs.WL.val (some 82) (.bool true) W55 rfl (by kernel_rfl) (by kernel_rfl) ?_
    simp only [Act.put, List.setIfInBounds_toArray, List.set_cons_zero, List.set_cons_succ]
    refine Segs.WL.val (some 83) (.bool true) W55 rfl (by kernel_rfl) (by kernel_rfl) ?_
    simp only [Act.put, List.setIfInBounds_toArray, List.set_cons_zero, List.set_cons_succ]
    refine Segs.WL.val (some 84) (.string H) W55 rfl (by kernel_rfl) (by kernel_rfl) ?_
    simp only [Act.put, List.setIfInBounds_toArray, List.set_cons_zero, List.set_cons_succ]
    refine Segs.WL.val (some 85) (.string S) W55 rfl (by kernel_rfl) (by kernel_rfl) ?_
    simp only [Act.put, List.setIfInBounds_toArray, List.set_cons_zero, List.set_cons_succ]
    obtain ⟨bs, hbs⟩ : ∃ n, n = W55.heap.size := ⟨_, rfl⟩
    have K61 := Lib.hid (K56.out.alloc (.cells #[.string S] 9))
    have ne62 : w.heap.size ≠ bs := by have := K56.out.lt; omega
    have K63 := Lib.hid (K57.out.alloc (.cells #[.string S] 9))
    have ne64 : (w.heap.size + 1) ≠ bs := by have := K57.out.lt; omega
    have K65 := Lib.hid (K58.out.alloc (.cells #[.string S] 9))
    have ne66 : bx ≠ bs := by have := K58.out.lt; omega
    have K67 := Lib.hid (by have := Blk.new W55 9 #[.string S]; rw [← hbs] at this; exact this : Blk (W55.alloc (.cells #[.string S] 9)) bs 9 #[.string S])
    have B68 := Lib.hid (B59.out.alloc (.cells #[.string S] 9))
    have ge69 : w.heap.size ≤ bs := by rw [hbs]; exact B59.out.2
    refine Segs.WL.val (some 86) (.slice (some ⟨bs, 0, none⟩) 1 1) (W55.alloc (.cells #[.string S] 9)) rfl (by kernel_rfl) (by rw [hbs]; exact Segs.run_slice_of 42 9 1 _ rfl _ Tryd.underlying42 (by kernel_rfl)) ?_
    simp only [Act.put, List.setIfInBounds_toArray, List.set_cons_zero, List.set_cons_succ]
    generalize W55.alloc (.cells #[.string S] 9) = W60 at K61 K63 K65 K67 B68 ⊢
    clear hbs
    refine Segs.WL.call (some 87) 16 #[.slice (some ⟨bs, 0, none⟩) 1 1] _ rfl (by kernel_rfl) (by kernel_rfl) (OF.out bs W60 (LA.out _ B68.out.1).sha K67.out) (fun e W70 hR => ?_)
    obtain ⟨rfl, hb⟩ := hR
    refine ⟨_, rfl, ?_⟩
    simp only [Act.put, List.setIfInBounds_toArray, List.set_cons_zero, List.set_cons_succ]
    have K71 := Lib.hid (K61.out.below hb)
    have K72 := Lib.hid (K63.out.below hb)
    have K73 := Lib.hid (K65.out.below hb)
    have K74 := Lib.hid (K67.out.below hb)
    have B75 := Lib.hid (B68.out.call hb)
    clear hb
    refine Segs.WL.val (some 88) (.bool !true) W70 rfl (by kernel_rfl) (run_nes rfl H H (by kernel_rfl) (by kernel_rfl) true (by first | rfl | exact decide_eq_true rfl)) ?_
    simp only [Act.put, List.setIfInBounds_toArray, List.set_cons_zero, List.set_cons_succ]
    refine Segs.WL.val (some 89) (.bool false) W70 rfl (by kernel_rfl) (by kernel_rfl) ?_
    simp only [Act.put, List.setIfInBounds_toArray, List.set_cons_zero, List.set_cons_succ]
    refine Segs.WL.val (some 90) (.bool false) W70 rfl (by kernel_rfl) (by kernel_rfl) ?_
    simp only [Act.put, List.setIfInBounds_toArray, List.set_cons_zero, List.set_cons_succ]
    refine Segs.WL.val (some 91) (.bool false) W70 rfl (by kernel_rfl) (by kernel_rfl) ?_
    simp only [Act.put, List.setIfInBounds_toArray, List.set_cons_zero, List.set_cons_succ]
    refine Segs.WL.val (some 92) (.bool false) W70 rfl (by kernel_rfl) (by kernel_rfl) ?_
    simp only [Act.put, List.setIfInBounds_toArray, List.set_cons_zero, List.set_cons_succ]
    refine Segs.WL.val (some 93) (.string S) W70 rfl (by kernel_rfl) (by kernel_rfl) ?_
    simp only [Act.put, List.setIfInBounds_toArray, List.set_cons_zero, List.set_cons_succ]
    refine Segs.WL.val (some 94) (.int .i64 ((S.size : Int))) W70 rfl (by kernel_rfl) (by kernel_rfl) ?_
    simp only [Act.put, List.setIfInBounds_toArray, List.set_cons_zero, List.set_cons_succ]
    refine Segs.WL.val (some 95) (.bool (decide ((S.size : Int) < (32 : Int)))) W70 rfl (by kernel_rfl) (by kernel_rfl) ?_
    simp only [Act.put, List.setIfInBounds_toArray, List.set_cons_zero, List.set_cons_succ]
    rw [HLT.out]
    refine Segs.WL.val (some 96) (.bool false) W70 rfl (by kernel_rfl) (by kernel_rfl) ?_
    simp only [Act.put, List.setIfInBounds_toArray, List.set_cons_zero, List.set_cons_succ]
    refine Segs.WL.val (some 97) (.bool false) W70 rfl (by kernel_rfl) (by kernel_rfl) ?_
    simp only [Act.put, List.setIfInBounds_toArray, List.set_cons_zero, List.set_cons_succ]
    refine Segs.WL.nil ?_
    go_upto_region 14 with (fail)
    refine Segs.wp_region_segs Segs.Hist [false, false, false, false, false, false, false, false, false, false, false, false, false, false, false, false, false] Segs.Hist.refl Segs.Hist.trans (by kernel_rfl) (by kernel_rfl) (by kernel_rfl) (Segs.WM.out ?_)
    have K77 := Lib.hid (show Blk W70.drew w.heap.size 25 CS from K71.out)
    have K78 := Lib.hid (show Blk W70.drew (w.heap.size + 1) 25 CM from K72.out)
    have K79 := Lib.hid (show Blk W70.drew bx 25 Z0 from K73.out)
    have K80 := Lib.hid (show Blk W70.drew bs 9 #[.string S] from K74.out)
    have B81 := Lib.hid B75.out.drew
    generalize W70.drew = W76 at K77 K78 K79 K80 B81 ⊢
    refine Segs.WM.val (some 98) (.bool true) rfl (by kernel_rfl) (fun WW h => by kernel_rfl) ?_
    simp only [Act.put, List.setIfInBounds_toArray, List.set_cons_zero, List.set_cons_succ]
    refine Segs.WM.val (some 99) (.bool true) rfl (by kernel_rfl) (fun WW h => by kernel_rfl) ?_
    simp only [Act.put, List.setIfInBounds_toArray, List.set_cons_zero, List.set_cons_succ]
    refine Segs.WM.val (some 100) (.string A) rfl (by kernel_rfl) (fun WW h => by kernel_rfl) ?_
    simp only [Act.put, List.setIfInBounds_toArray, List.set_cons_zero, List.set_cons_succ]
    refine Segs.WM.val (some 101) (.string T) rfl (by kernel_rfl) (fun WW h => by kernel_rfl) ?_
    simp only [Act.put, List.setIfInBounds_toArray, List.set_cons_zero, List.set_cons_succ]
    refine Segs.WM.call (some 102) 13 #[.string T] (.string AT) rfl (by kernel_rfl) (fun W => by kernel_rfl) (fun WW h => REFT.out WW (LA.out _ (Lib.hid (B81.out.call h)).out.1).sha) ?_
    simp only [Act.put, List.setIfInBounds_toArray, List.set_cons_zero, List.set_cons_succ]
    refine Segs.WM.val (some 103) (.bool true) rfl (by kernel_rfl) (fun WW h => run_eqs rfl A AT (by kernel_rfl) (by kernel_rfl) true (HAE.out)) ?_
    simp only [Act.put, List.setIfInBounds_toArray, List.set_cons_zero, List.set_cons_succ]
    refine Segs.WM.val (some 104) (.agg CS) rfl (by kernel_rfl) (fun WW h => Segs.run_row 25 (.tmp 2) rfl w.heap.size (by kernel_rfl) 25 CS _ (Lib.hid (K77.out.below h)).out Tryd.underlying25 rfl (info19 (NCS.out.size))) ?_
    simp only [Act.put, List.setIfInBounds_toArray, List.set_cons_zero, List.set_cons_succ]
    refine Segs.WM.val (some 105) (.agg CM) rfl (by kernel_rfl) (fun WW h => Segs.run_row 25 (.tmp 3) rfl (w.heap.size + 1) (by kernel_rfl) 25 CM _ (Lib.hid (K78.out.below h)).out Tryd.underlying25 rfl (info19 (NCM.out.size))) ?_
    simp only [Act.put, List.setIfInBounds_toArray, List.set_cons_zero, List.set_cons_succ]
    refine Segs.WM.val (some 106) (.bool true) rfl (by kernel_rfl) (fun WW h => run_eql_of rfl CS CM HCS.out HCM.out (by kernel_rfl) (by kernel_rfl) h16 g16 true (HNE.out)) ?_
    simp only [Act.put, List.setIfInBounds_toArray, List.set_cons_zero, List.set_cons_succ]
    refine Segs.WM.val (some 107) (.bool true) rfl (by kernel_rfl) (fun WW h => by kernel_rfl) ?_
    simp only [Act.put, List.setIfInBounds_toArray, List.set_cons_zero, List.set_cons_succ]
    refine Segs.WM.val (some 108) (.bool true) rfl (by kernel_rfl) (fun WW h => by kernel_rfl) ?_
    simp only [Act.put, List.setIfInBounds_toArray, List.set_cons_zero, List.set_cons_succ]
    refine Segs.WM.not (some 109) rfl (by kernel_rfl) ?_
    simp only [Act.put, List.setIfInBounds_toArray, List.set_cons_zero, List.set_cons_succ]
    refine Segs.WM.not (some 110) rfl (by kernel_rfl) ?_
    simp only [Act.put, List.setIfInBounds_toArray, List.set_cons_zero, List.set_cons_succ]
    refine Segs.WM.not (some 111) rfl (by kernel_rfl) ?_
    simp only [Act.put, List.setIfInBounds_toArray, List.set_cons_zero, List.set_cons_succ]
    refine Segs.WM.val (some 112) (.bool true) rfl (by kernel_rfl) (fun WW h => by kernel_rfl) ?_
    simp only [Act.put, List.setIfInBounds_toArray, List.set_cons_zero, List.set_cons_succ]
    refine Segs.WM.val (some 113) (.bool true) rfl (by kernel_rfl) (fun WW h => by kernel_rfl) ?_
    simp only [Act.put, List.setIfInBounds_toArray, List.set_cons_zero, List.set_cons_succ]
    refine Segs.WM.val (some 4) (.bool true) rfl (by kernel_rfl) (fun WW h => by kernel_rfl) ?_
    simp only [Act.put, List.setIfInBounds_toArray, List.set_cons_zero, List.set_cons_succ]
    refine Segs.WM.fin (fun W82 hx => ?_)
    have K83 := Lib.hid (K77.out.below hx)
    have K84 := Lib.hid (K78.out.below hx)
    have K85 := Lib.hid (K79.out.below hx)
    have K86 := Lib.hid (K80.out.below hx)
    have B87 := Lib.hid (B81.out.call hx)
    clear hx
    go_wp2_with fail
    go_ret
    exact ⟨rfl, B87.out.1⟩
  by_cases hae : refB (bytesB a0) = refB (bytesB a1)
  · have hc := tell hae hne
    rw [hc] at col
    have HNE := Lib.hid (show decide (a0 = a1) = false from decide_eq_false hne)
    have HAE := Lib.hid (show decide (refB (bytesB a0) = refB (bytesB a1)) = true from decide_eq_true hae)
    obtain ⟨A, hA⟩ : ∃ z, z = refB (bytesB a0) := ⟨_, rfl⟩
    obtain ⟨AT, hAT⟩ : ∃ z, z = refB (bytesB a1) := ⟨_, rfl⟩
    obtain ⟨S, hS⟩ : ∃ z, z = bytesB a0 := ⟨_, rfl⟩
    obtain ⟨T, hT⟩ : ∃ z, z = bytesB a1 := ⟨_, rfl⟩
    rw [← hA] at ref hash inl HAE
    rw [← hAT] at reft HAE
    rw [← hS] at putn ref col HLT ofs
    rw [← hT] at putm reft col
    have PN := Lib.hid putn
    have PM := Lib.hid putm
    have REF := Lib.hid ref
    have REFT := Lib.hid reft
    have HASH := Lib.hid hash
    have INL := Lib.hid inl
    have OF := Lib.hid ofs
    have COL := Lib.hid col
    clear hl fewn fewm hCS hCM hZ0 hfn hfm w0 w1 vn vm putn putm hvn hvm hk hk' hk00 hk10 ref reft hash inl col ofs tell ins bz bz' hs hS hT hA hAT hne hH hX hae hc
    have B0 := Lib.hid (Bl.start w)
    have K1 := Lib.hid (by have := Blk.new (w) 25 CS; simpa using this : Blk ((w).alloc (.cells CS 25)) w.heap.size 25 CS)
    have B2 := Lib.hid (B0.out.alloc (.cells CS 25))
    have K3 := Lib.hid (K1.out.alloc (.cells CM 25))
    have K4 := Lib.hid (by have := Blk.new (w.alloc (.cells CS 25)) 25 CM; simpa using this : Blk ((w.alloc (.cells CS 25)).alloc (.cells CM 25)) (w.heap.size + 1) 25 CM)
    have B5 := Lib.hid (B2.out.alloc (.cells CM 25))
    go_enter Tryd.func4, Tryd.ntmps4
    go_upto_region 1 with (fail)
    generalize (w.alloc (.cells CS 25)).alloc (.cells CM 25) = W6 at K3 K4 B5 ⊢
    refine wp_region_lit (Segs.WL.out ?_)
    refine Segs.WL.call (some 16) 8 #[] _ rfl (by kernel_rfl) (by kernel_rfl) (WK.out W6 (LA.out _ B5.out.1)) (fun e W7 hR => ?_)
    obtain ⟨rfl, hb⟩ := hR
    refine ⟨_, rfl, ?_⟩
    simp only [Act.put, List.setIfInBounds_toArray, List.set_cons_zero, List.set_cons_succ]
    have K8 := Lib.hid (K3.out.below hb)
    have K9 := Lib.hid (K4.out.below hb)
    have B10 := Lib.hid (B5.out.call hb)
    clear hb
    refine Segs.WL.val (some 5) (.bool true) W7 rfl (by kernel_rfl) (by kernel_rfl) ?_
    simp only [Act.put, List.setIfInBounds_toArray, List.set_cons_zero, List.set_cons_succ]
    refine Segs.WL.nil ?_
    go_upto_region 2 with (fail)
    refine wp_region_lit (Segs.WL.out ?_)
    refine Segs.WL.val (some 17) (.bool true) W7 rfl (by kernel_rfl) (by kernel_rfl) ?_
    simp only [Act.put, List.setIfInBounds_toArray, List.set_cons_zero, List.set_cons_succ]
    refine Segs.WL.val (some 18) (.bool false) W7 rfl (by kernel_rfl) (by kernel_rfl) ?_
    simp only [Act.put, List.setIfInBounds_toArray, List.set_cons_zero, List.set_cons_succ]
    refine Segs.WL.nil ?_
    go_upto_region 4 with (fail)
    refine wp_region_lit (Segs.WL.out ?_)
    refine Segs.WL.val (some 19) (.agg CS) W7 rfl (by kernel_rfl) (Segs.run_row 25 (.tmp 2) rfl w.heap.size (by kernel_rfl) 25 CS _ K8.out Tryd.underlying25 rfl (info19 (NCS.out.size))) ?_
    simp only [Act.put, List.setIfInBounds_toArray, List.set_cons_zero, List.set_cons_succ]
    refine Segs.WL.call (some 20) 9 #[.agg CS] _ rfl (by kernel_rfl) (by kernel_rfl) (FEWN.out W7) (fun e W11 hR => ?_)
    obtain ⟨rfl, hb⟩ := hR
    refine ⟨_, rfl, ?_⟩
    simp only [Act.put, List.setIfInBounds_toArray, List.set_cons_zero, List.set_cons_succ]
    have K12 := Lib.hid (K8.out.below hb)
    have K13 := Lib.hid (K9.out.below hb)
    have B14 := Lib.hid (B10.out.call hb)
    clear hb
    refine Segs.WL.val (some 21) (.bool true) W11 rfl (by kernel_rfl) (by kernel_rfl) ?_
    simp only [Act.put, List.setIfInBounds_toArray, List.set_cons_zero, List.set_cons_succ]
    refine Segs.WL.val (some 22) (.agg CM) W11 rfl (by kernel_rfl) (Segs.run_row 25 (.tmp 3) rfl (w.heap.size + 1) (by kernel_rfl) 25 CM _ K13.out Tryd.underlying25 rfl (info19 (NCM.out.size))) ?_
    simp only [Act.put, List.setIfInBounds_toArray, List.set_cons_zero, List.set_cons_succ]
    refine Segs.WL.call (some 23) 9 #[.agg CM] _ rfl (by kernel_rfl) (by kernel_rfl) (FEWM.out W11) (fun e W15 hR => ?_)
    obtain ⟨rfl, hb⟩ := hR
    refine ⟨_, rfl, ?_⟩
    simp only [Act.put, List.setIfInBounds_toArray, List.set_cons_zero, List.set_cons_succ]
    have K16 := Lib.hid (K12.out.below hb)
    have K17 := Lib.hid (K13.out.below hb)
    have B18 := Lib.hid (B14.out.call hb)
    clear hb
    refine Segs.WL.val (some 24) (.bool true) W15 rfl (by kernel_rfl) (by kernel_rfl) ?_
    simp only [Act.put, List.setIfInBounds_toArray, List.set_cons_zero, List.set_cons_succ]
    refine Segs.WL.val (some 6) (.bool true) W15 rfl (by kernel_rfl) (by kernel_rfl) ?_
    simp only [Act.put, List.setIfInBounds_toArray, List.set_cons_zero, List.set_cons_succ]
    refine Segs.WL.nil ?_
    go_upto_region 5 with (fail)
    refine wp_region_lit (Segs.WL.out ?_)
    refine Segs.WL.val (some 25) (.bool true) W15 rfl (by kernel_rfl) (by kernel_rfl) ?_
    simp only [Act.put, List.setIfInBounds_toArray, List.set_cons_zero, List.set_cons_succ]
    refine Segs.WL.val (some 26) (.bool false) W15 rfl (by kernel_rfl) (by kernel_rfl) ?_
    simp only [Act.put, List.setIfInBounds_toArray, List.set_cons_zero, List.set_cons_succ]
    refine Segs.WL.val (some 27) (.bool false) W15 rfl (by kernel_rfl) (by kernel_rfl) ?_
    simp only [Act.put, List.setIfInBounds_toArray, List.set_cons_zero, List.set_cons_succ]
    refine Segs.WL.val (some 28) (.agg CS) W15 rfl (by kernel_rfl) (Segs.run_row 25 (.tmp 2) rfl w.heap.size (by kernel_rfl) 25 CS _ K16.out Tryd.underlying25 rfl (info19 (NCS.out.size))) ?_
    simp only [Act.put, List.setIfInBounds_toArray, List.set_cons_zero, List.set_cons_succ]
    refine Segs.WL.call (some 29) 12 #[.agg CS] _ rfl (by kernel_rfl) (by kernel_rfl) (VN.out W15 (LA.out _ B18.out.1).err) (fun e W19 hR => ?_)
    obtain ⟨rfl, hb⟩ := hR
    refine ⟨_, rfl, ?_⟩
    simp only [Act.put, List.setIfInBounds_toArray, List.set_cons_zero, List.set_cons_succ]
    have K20 := Lib.hid (K16.out.below hb)
    have K21 := Lib.hid (K17.out.below hb)
    have B22 := Lib.hid (B18.out.call hb)
    clear hb
    refine Segs.WL.val (some 30) (.bool false) W19 rfl (by kernel_rfl) (by kernel_rfl) ?_
    simp only [Act.put, List.setIfInBounds_toArray, List.set_cons_zero, List.set_cons_succ]
    refine Segs.WL.val (some 31) (.bool false) W19 rfl (by kernel_rfl) (by kernel_rfl) ?_
    simp only [Act.put, List.setIfInBounds_toArray, List.set_cons_zero, List.set_cons_succ]
    refine Segs.WL.val (some 32) (.bool false) W19 rfl (by kernel_rfl) (by kernel_rfl) ?_
    simp only [Act.put, List.setIfInBounds_toArray, List.set_cons_zero, List.set_cons_succ]
    refine Segs.WL.val (some 33) (.agg CM) W19 rfl (by kernel_rfl) (Segs.run_row 25 (.tmp 3) rfl (w.heap.size + 1) (by kernel_rfl) 25 CM _ K21.out Tryd.underlying25 rfl (info19 (NCM.out.size))) ?_
    simp only [Act.put, List.setIfInBounds_toArray, List.set_cons_zero, List.set_cons_succ]
    refine Segs.WL.call (some 34) 12 #[.agg CM] _ rfl (by kernel_rfl) (by kernel_rfl) (VM.out W19 (LA.out _ B22.out.1).err) (fun e W23 hR => ?_)
    obtain ⟨rfl, hb⟩ := hR
    refine ⟨_, rfl, ?_⟩
    simp only [Act.put, List.setIfInBounds_toArray, List.set_cons_zero, List.set_cons_succ]
    have K24 := Lib.hid (K20.out.below hb)
    have K25 := Lib.hid (K21.out.below hb)
    have B26 := Lib.hid (B22.out.call hb)
    clear hb
    refine Segs.WL.val (some 35) (.bool false) W23 rfl (by kernel_rfl) (by kernel_rfl) ?_
    simp only [Act.put, List.setIfInBounds_toArray, List.set_cons_zero, List.set_cons_succ]
    refine Segs.WL.val (some 36) (.bool false) W23 rfl (by kernel_rfl) (by kernel_rfl) ?_
    simp only [Act.put, List.setIfInBounds_toArray, List.set_cons_zero, List.set_cons_succ]
    refine Segs.WL.val (some 37) (.bool false) W23 rfl (by kernel_rfl) (by kernel_rfl) ?_
    simp only [Act.put, List.setIfInBounds_toArray, List.set_cons_zero, List.set_cons_succ]
    refine Segs.WL.val (some 38) (.pointer (some ⟨w.heap.size, 0, none⟩)) W23 rfl (by kernel_rfl) (by kernel_rfl) ?_
    simp only [Act.put, List.setIfInBounds_toArray, List.set_cons_zero, List.set_cons_succ]
    refine Segs.WL.val (some 39) (.int .i64 k0) W23 rfl (by kernel_rfl) (Segs.run_cell 22 (.tmp 38) rfl w.heap.size 0 (by kernel_rfl) _ (isAggKind _) (by rw [K24.out.cell]; exact HK0.out)) ?_
    simp only [Act.put, List.setIfInBounds_toArray, List.set_cons_zero, List.set_cons_succ]
    refine Segs.WL.val (some 40) (.bool (decide (k0 = 0))) W23 rfl (by kernel_rfl) (by kernel_rfl) ?_
    simp only [Act.put, List.setIfInBounds_toArray, List.set_cons_zero, List.set_cons_succ]
    rw [DK0.out]
    refine Segs.WL.val (some 41) (.bool false) W23 rfl (by kernel_rfl) (by kernel_rfl) ?_
    simp only [Act.put, List.setIfInBounds_toArray, List.set_cons_zero, List.set_cons_succ]
    refine Segs.WL.val (some 42) (.bool false) W23 rfl (by kernel_rfl) (by kernel_rfl) ?_
    simp only [Act.put, List.setIfInBounds_toArray, List.set_cons_zero, List.set_cons_succ]
    refine Segs.WL.val (some 43) (.pointer (some ⟨(w.heap.size + 1), 0, none⟩)) W23 rfl (by kernel_rfl) (by kernel_rfl) ?_
    simp only [Act.put, List.setIfInBounds_toArray, List.set_cons_zero, List.set_cons_succ]
    refine Segs.WL.val (some 44) (.int .i64 k1) W23 rfl (by kernel_rfl) (Segs.run_cell 22 (.tmp 43) rfl (w.heap.size + 1) 0 (by kernel_rfl) _ (isAggKind _) (by rw [K25.out.cell]; exact HK1.out)) ?_
    simp only [Act.put, List.setIfInBounds_toArray, List.set_cons_zero, List.set_cons_succ]
    refine Segs.WL.val (some 45) (.bool (decide (k1 = 0))) W23 rfl (by kernel_rfl) (by kernel_rfl) ?_
    simp only [Act.put, List.setIfInBounds_toArray, List.set_cons_zero, List.set_cons_succ]
    rw [DK1.out]
    refine Segs.WL.val (some 46) (.bool false) W23 rfl (by kernel_rfl) (by kernel_rfl) ?_
    simp only [Act.put, List.setIfInBounds_toArray, List.set_cons_zero, List.set_cons_succ]
    refine Segs.WL.nil ?_
    go_upto_region 7 with (fail)
    refine wp_region_lit (Segs.WL.out ?_)
    refine Segs.WL.val (some 49) (.agg CS) W23 rfl (by kernel_rfl) (Segs.run_row 25 (.tmp 2) rfl w.heap.size (by kernel_rfl) 25 CS _ K24.out Tryd.underlying25 rfl (info19 (NCS.out.size))) ?_
    simp only [Act.put, List.setIfInBounds_toArray, List.set_cons_zero, List.set_cons_succ]
    refine Segs.WL.call (some 50) 10 #[.agg CS] _ rfl (by kernel_rfl) (by kernel_rfl) (PN.out W23 (LA.out _ B26.out.1).err) (fun e W27 hR => ?_)
    obtain ⟨rfl, hb⟩ := hR
    refine ⟨_, rfl, ?_⟩
    simp only [Act.put, List.setIfInBounds_toArray, List.set_cons_zero, List.set_cons_succ]
    have K28 := Lib.hid (K24.out.below hb)
    have K29 := Lib.hid (K25.out.below hb)
    have B30 := Lib.hid (B26.out.call hb)
    clear hb
    refine Segs.WL.val (some 48) (.tuple #[.string S, .int .i64 0]) W27 rfl (by kernel_rfl) (by kernel_rfl) ?_
    simp only [Act.put, List.setIfInBounds_toArray, List.set_cons_zero, List.set_cons_succ]
    refine Segs.WL.val (some 51) (.string S) W27 rfl (by kernel_rfl) (by kernel_rfl) ?_
    simp only [Act.put, List.setIfInBounds_toArray, List.set_cons_zero, List.set_cons_succ]
    refine Segs.WL.val (some 52) (.int .i64 0) W27 rfl (by kernel_rfl) (by kernel_rfl) ?_
    simp only [Act.put, List.setIfInBounds_toArray, List.set_cons_zero, List.set_cons_succ]
    refine Segs.WL.val (some 7) (.string S) W27 rfl (by kernel_rfl) (by kernel_rfl) ?_
    simp only [Act.put, List.setIfInBounds_toArray, List.set_cons_zero, List.set_cons_succ]
    refine Segs.WL.val (some 8) (.int .i64 0) W27 rfl (by kernel_rfl) (by kernel_rfl) ?_
    simp only [Act.put, List.setIfInBounds_toArray, List.set_cons_zero, List.set_cons_succ]
    refine Segs.WL.nil ?_
    go_upto_region 8 with (fail)
    refine wp_region_lit (Segs.WL.out ?_)
    refine Segs.WL.val (some 54) (.agg CM) W27 rfl (by kernel_rfl) (Segs.run_row 25 (.tmp 3) rfl (w.heap.size + 1) (by kernel_rfl) 25 CM _ K29.out Tryd.underlying25 rfl (info19 (NCM.out.size))) ?_
    simp only [Act.put, List.setIfInBounds_toArray, List.set_cons_zero, List.set_cons_succ]
    refine Segs.WL.call (some 55) 10 #[.agg CM] _ rfl (by kernel_rfl) (by kernel_rfl) (PM.out W27 (LA.out _ B30.out.1).err) (fun e W31 hR => ?_)
    obtain ⟨rfl, hb⟩ := hR
    refine ⟨_, rfl, ?_⟩
    simp only [Act.put, List.setIfInBounds_toArray, List.set_cons_zero, List.set_cons_succ]
    have K32 := Lib.hid (K28.out.below hb)
    have K33 := Lib.hid (K29.out.below hb)
    have B34 := Lib.hid (B30.out.call hb)
    clear hb
    refine Segs.WL.val (some 53) (.tuple #[.string T, .int .i64 0]) W31 rfl (by kernel_rfl) (by kernel_rfl) ?_
    simp only [Act.put, List.setIfInBounds_toArray, List.set_cons_zero, List.set_cons_succ]
    refine Segs.WL.val (some 56) (.string T) W31 rfl (by kernel_rfl) (by kernel_rfl) ?_
    simp only [Act.put, List.setIfInBounds_toArray, List.set_cons_zero, List.set_cons_succ]
    refine Segs.WL.val (some 57) (.int .i64 0) W31 rfl (by kernel_rfl) (by kernel_rfl) ?_
    simp only [Act.put, List.setIfInBounds_toArray, List.set_cons_zero, List.set_cons_succ]
    refine Segs.WL.val (some 9) (.string T) W31 rfl (by kernel_rfl) (by kernel_rfl) ?_
    simp only [Act.put, List.setIfInBounds_toArray, List.set_cons_zero, List.set_cons_succ]
    refine Segs.WL.val (some 10) (.int .i64 0) W31 rfl (by kernel_rfl) (by kernel_rfl) ?_
    simp only [Act.put, List.setIfInBounds_toArray, List.set_cons_zero, List.set_cons_succ]
    refine Segs.WL.nil ?_
    go_upto_region 9 with (fail)
    refine wp_region_lit (Segs.WL.out ?_)
    refine Segs.WL.val (some 58) (.string S) W31 rfl (by kernel_rfl) (by kernel_rfl) ?_
    simp only [Act.put, List.setIfInBounds_toArray, List.set_cons_zero, List.set_cons_succ]
    refine Segs.WL.call (some 59) 13 #[.string S] _ rfl (by kernel_rfl) (by kernel_rfl) (REF.out W31 (LA.out _ B34.out.1).sha) (fun e W35 hR => ?_)
    obtain ⟨rfl, hb⟩ := hR
    refine ⟨_, rfl, ?_⟩
    simp only [Act.put, List.setIfInBounds_toArray, List.set_cons_zero, List.set_cons_succ]
    have K36 := Lib.hid (K32.out.below hb)
    have K37 := Lib.hid (K33.out.below hb)
    have B38 := Lib.hid (B34.out.call hb)
    clear hb
    refine Segs.WL.val (some 11) (.string A) W35 rfl (by kernel_rfl) (by kernel_rfl) ?_
    simp only [Act.put, List.setIfInBounds_toArray, List.set_cons_zero, List.set_cons_succ]
    refine Segs.WL.nil ?_
    go_upto_region 10 with (fail)
    refine wp_region_lit (Segs.WL.out ?_)
    refine Segs.WL.val (some 61) (.string A) W35 rfl (by kernel_rfl) (by kernel_rfl) ?_
    simp only [Act.put, List.setIfInBounds_toArray, List.set_cons_zero, List.set_cons_succ]
    refine Segs.WL.call (some 62) 14 #[.string A] _ rfl (by kernel_rfl) (by kernel_rfl) (HASH.out W35) (fun e W39 hR => ?_)
    obtain ⟨rfl, hb⟩ := hR
    refine ⟨_, rfl, ?_⟩
    simp only [Act.put, List.setIfInBounds_toArray, List.set_cons_zero, List.set_cons_succ]
    have K40 := Lib.hid (K36.out.below hb)
    have K41 := Lib.hid (K37.out.below hb)
    have B42 := Lib.hid (B38.out.call hb)
    clear hb
    refine Segs.WL.val (some 60) (.tuple #[.string H, .bool true]) W39 rfl (by kernel_rfl) (by kernel_rfl) ?_
    simp only [Act.put, List.setIfInBounds_toArray, List.set_cons_zero, List.set_cons_succ]
    refine Segs.WL.val (some 63) (.string H) W39 rfl (by kernel_rfl) (by kernel_rfl) ?_
    simp only [Act.put, List.setIfInBounds_toArray, List.set_cons_zero, List.set_cons_succ]
    refine Segs.WL.val (some 64) (.bool true) W39 rfl (by kernel_rfl) (by kernel_rfl) ?_
    simp only [Act.put, List.setIfInBounds_toArray, List.set_cons_zero, List.set_cons_succ]
    refine Segs.WL.val (some 12) (.string H) W39 rfl (by kernel_rfl) (by kernel_rfl) ?_
    simp only [Act.put, List.setIfInBounds_toArray, List.set_cons_zero, List.set_cons_succ]
    refine Segs.WL.val (some 13) (.bool true) W39 rfl (by kernel_rfl) (by kernel_rfl) ?_
    simp only [Act.put, List.setIfInBounds_toArray, List.set_cons_zero, List.set_cons_succ]
    refine Segs.WL.nil ?_
    go_upto_region 11 with (fail)
    refine wp_region_lit (Segs.WL.out ?_)
    refine Segs.WL.val (some 66) (.string A) W39 rfl (by kernel_rfl) (by kernel_rfl) ?_
    simp only [Act.put, List.setIfInBounds_toArray, List.set_cons_zero, List.set_cons_succ]
    refine Segs.WL.call (some 67) 15 #[.string A] _ rfl (by kernel_rfl) (by kernel_rfl) (INL.out W39 (LA.out _ B42.out.1).err) (fun e W43 hR => ?_)
    obtain ⟨rfl, hb⟩ := hR
    refine ⟨_, rfl, ?_⟩
    simp only [Act.put, List.setIfInBounds_toArray, List.set_cons_zero, List.set_cons_succ]
    have K44 := Lib.hid (K40.out.below hb)
    have K45 := Lib.hid (K41.out.below hb)
    have B46 := Lib.hid (B42.out.call hb)
    clear hb
    refine Segs.WL.val (some 65) (.tuple #[.agg Z0, .bool false]) W43 rfl (by kernel_rfl) (by kernel_rfl) ?_
    simp only [Act.put, List.setIfInBounds_toArray, List.set_cons_zero, List.set_cons_succ]
    refine Segs.WL.val (some 68) (.agg Z0) W43 rfl (by kernel_rfl) (by kernel_rfl) ?_
    simp only [Act.put, List.setIfInBounds_toArray, List.set_cons_zero, List.set_cons_succ]
    refine Segs.WL.val (some 69) (.bool false) W43 rfl (by kernel_rfl) (by kernel_rfl) ?_
    simp only [Act.put, List.setIfInBounds_toArray, List.set_cons_zero, List.set_cons_succ]
    obtain ⟨bx, hbx⟩ : ∃ n, n = W43.heap.size := ⟨_, rfl⟩
    have K48 := Lib.hid (K44.out.alloc (.cells Z0 25))
    have ne49 : w.heap.size ≠ bx := by have := K44.out.lt; omega
    have K50 := Lib.hid (K45.out.alloc (.cells Z0 25))
    have ne51 : (w.heap.size + 1) ≠ bx := by have := K45.out.lt; omega
    have K52 := Lib.hid (by have := Blk.new W43 25 Z0; rw [← hbx] at this; exact this : Blk (W43.alloc (.cells Z0 25)) bx 25 Z0)
    have B53 := Lib.hid (B46.out.alloc (.cells Z0 25))
    have ge54 : w.heap.size ≤ bx := by rw [hbx]; exact B46.out.2
    refine Segs.WL.val (some 14) (.pointer (some ⟨bx, 0, none⟩)) (W43.alloc (.cells Z0 25)) rfl (by kernel_rfl) (by rw [hbx]; exact Segs.run_allocOf rfl Z0 (al_nd0 HZ.out)) ?_
    simp only [Act.put, List.setIfInBounds_toArray, List.set_cons_zero, List.set_cons_succ]
    generalize W43.alloc (.cells Z0 25) = W47 at K48 K50 K52 B53 ⊢
    clear hbx
    have K56 := Lib.hid (K48.out.rowOther (g' := bx) (cs := Z0) ne49)
    have K57 := Lib.hid (K50.out.rowOther (g' := bx) (cs := Z0) ne51)
    have K58 := Lib.hid (K52.out.row (cs := Z0))
    have B59 := Lib.hid (Bl.setRow B53.out (g := bx) ge54 Z0)
    refine Segs.WL.skip (W47.setRow bx Z0) rfl (by kernel_rfl) (Segs.run_storeRow rfl bx Z0 (by kernel_rfl) (by kernel_rfl) 25 Z0 K52.out (info19 NZ.out.size) (NZ.out.size.trans NZ.out.size.symm) NZ.out.one) ?_
    generalize W47.setRow bx Z0 = W55 at K56 K57 K58 B59 ⊢
    refine Segs.WL.val (some 15) (.bool false) W55 rfl (by kernel_rfl) (by kernel_rfl) ?_
    simp only [Act.put, List.setIfInBounds_toArray, List.set_cons_zero, List.set_cons_succ]
    refine Segs.WL.nil ?_
    go_upto_region 12 with (fail)
    refine wp_region_lit (Segs.WL.out ?_)
    refine Segs.WL.val (some 70) (.bool true) W55 rfl (by kernel_rfl) (by kernel_rfl) ?_
    simp only [Act.put, List.setIfInBounds_toArray, List.set_cons_zero, List.set_cons_succ]
    refine Segs.WL.val (some 71) (.bool false) W55 rfl (by kernel_rfl) (by kernel_rfl) ?_
    simp only [Act.put, List.setIfInBounds_toArray, List.set_cons_zero, List.set_cons_succ]
    refine Segs.WL.val (some 72) (.bool false) W55 rfl (by kernel_rfl) (by kernel_rfl) ?_
    simp only [Act.put, List.setIfInBounds_toArray, List.set_cons_zero, List.set_cons_succ]
    refine Segs.WL.val (some 73) (.bool false) W55 rfl (by kernel_rfl) (by kernel_rfl) ?_
    simp only [Act.put, List.setIfInBounds_toArray, List.set_cons_zero, List.set_cons_succ]
    refine Segs.WL.val (some 74) (.bool false) W55 rfl (by kernel_rfl) (by kernel_rfl) ?_
    simp only [Act.put, List.setIfInBounds_toArray, List.set_cons_zero, List.set_cons_succ]
    refine Segs.WL.val (some 75) (.bool false) W55 rfl (by kernel_rfl) (by kernel_rfl) ?_
    simp only [Act.put, List.setIfInBounds_toArray, List.set_cons_zero, List.set_cons_succ]
    refine Segs.WL.not (some 76) rfl (by kernel_rfl) ?_
    simp only [Act.put, List.setIfInBounds_toArray, List.set_cons_zero, List.set_cons_succ]
    refine Segs.WL.not (some 77) rfl (by kernel_rfl) ?_
    simp only [Act.put, List.setIfInBounds_toArray, List.set_cons_zero, List.set_cons_succ]
    refine Segs.WL.not (some 78) rfl (by kernel_rfl) ?_
    simp only [Act.put, List.setIfInBounds_toArray, List.set_cons_zero, List.set_cons_succ]
    refine Segs.WL.val (some 79) (.bool false) W55 rfl (by kernel_rfl) (by kernel_rfl) ?_
    simp only [Act.put, List.setIfInBounds_toArray, List.set_cons_zero, List.set_cons_succ]
    refine Segs.WL.val (some 80) (.bool false) W55 rfl (by kernel_rfl) (by kernel_rfl) ?_
    simp only [Act.put, List.setIfInBounds_toArray, List.set_cons_zero, List.set_cons_succ]
    refine Segs.WL.val (some 81) (.bool false) W55 rfl (by kernel_rfl) (by kernel_rfl) ?_
    simp only [Act.put, List.setIfInBounds_toArray, List.set_cons_zero, List.set_cons_succ]
    refine Segs.WL.val (some 82) (.bool true) W55 rfl (by kernel_rfl) (by kernel_rfl) ?_
    simp only [Act.put, List.setIfInBounds_toArray, List.set_cons_zero, List.set_cons_succ]
    refine Segs.WL.val (some 83) (.bool true) W55 rfl (by kernel_rfl) (by kernel_rfl) ?_
    simp only [Act.put, List.setIfInBounds_toArray, List.set_cons_zero, List.set_cons_succ]
    refine Segs.WL.val (some 84) (.string H) W55 rfl (by kernel_rfl) (by kernel_rfl) ?_
    simp only [Act.put, List.setIfInBounds_toArray, List.set_cons_zero, List.set_cons_succ]
    refine Segs.WL.val (some 85) (.string S) W55 rfl (by kernel_rfl) (by kernel_rfl) ?_
    simp only [Act.put, List.setIfInBounds_toArray, List.set_cons_zero, List.set_cons_succ]
    obtain ⟨bs, hbs⟩ : ∃ n, n = W55.heap.size := ⟨_, rfl⟩
    have K61 := Lib.hid (K56.out.alloc (.cells #[.string S] 9))
    have ne62 : w.heap.size ≠ bs := by have := K56.out.lt; omega
    have K63 := Lib.hid (K57.out.alloc (.cells #[.string S] 9))
    have ne64 : (w.heap.size + 1) ≠ bs := by have := K57.out.lt; omega
    have K65 := Lib.hid (K58.out.alloc (.cells #[.string S] 9))
    have ne66 : bx ≠ bs := by have := K58.out.lt; omega
    have K67 := Lib.hid (by have := Blk.new W55 9 #[.string S]; rw [← hbs] at this; exact this : Blk (W55.alloc (.cells #[.string S] 9)) bs 9 #[.string S])
    have B68 := Lib.hid (B59.out.alloc (.cells #[.string S] 9))
    have ge69 : w.heap.size ≤ bs := by rw [hbs]; exact B59.out.2
    refine Segs.WL.val (some 86) (.slice (some ⟨bs, 0, none⟩) 1 1) (W55.alloc (.cells #[.string S] 9)) rfl (by kernel_rfl) (by rw [hbs]; exact Segs.run_slice_of 42 9 1 _ rfl _ Tryd.underlying42 (by kernel_rfl)) ?_
    simp only [Act.put, List.setIfInBounds_toArray, List.set_cons_zero, List.set_cons_succ]
    generalize W55.alloc (.cells #[.string S] 9) = W60 at K61 K63 K65 K67 B68 ⊢
    clear hbs
    refine Segs.WL.call (some 87) 16 #[.slice (some ⟨bs, 0, none⟩) 1 1] _ rfl (by kernel_rfl) (by kernel_rfl) (OF.out bs W60 (LA.out _ B68.out.1).sha K67.out) (fun e W70 hR => ?_)
    obtain ⟨rfl, hb⟩ := hR
    refine ⟨_, rfl, ?_⟩
    simp only [Act.put, List.setIfInBounds_toArray, List.set_cons_zero, List.set_cons_succ]
    have K71 := Lib.hid (K61.out.below hb)
    have K72 := Lib.hid (K63.out.below hb)
    have K73 := Lib.hid (K65.out.below hb)
    have K74 := Lib.hid (K67.out.below hb)
    have B75 := Lib.hid (B68.out.call hb)
    clear hb
    refine Segs.WL.val (some 88) (.bool !true) W70 rfl (by kernel_rfl) (run_nes rfl H H (by kernel_rfl) (by kernel_rfl) true (by first | rfl | exact decide_eq_true rfl)) ?_
    simp only [Act.put, List.setIfInBounds_toArray, List.set_cons_zero, List.set_cons_succ]
    refine Segs.WL.val (some 89) (.bool false) W70 rfl (by kernel_rfl) (by kernel_rfl) ?_
    simp only [Act.put, List.setIfInBounds_toArray, List.set_cons_zero, List.set_cons_succ]
    refine Segs.WL.val (some 90) (.bool false) W70 rfl (by kernel_rfl) (by kernel_rfl) ?_
    simp only [Act.put, List.setIfInBounds_toArray, List.set_cons_zero, List.set_cons_succ]
    refine Segs.WL.val (some 91) (.bool false) W70 rfl (by kernel_rfl) (by kernel_rfl) ?_
    simp only [Act.put, List.setIfInBounds_toArray, List.set_cons_zero, List.set_cons_succ]
    refine Segs.WL.val (some 92) (.bool false) W70 rfl (by kernel_rfl) (by kernel_rfl) ?_
    simp only [Act.put, List.setIfInBounds_toArray, List.set_cons_zero, List.set_cons_succ]
    refine Segs.WL.val (some 93) (.string S) W70 rfl (by kernel_rfl) (by kernel_rfl) ?_
    simp only [Act.put, List.setIfInBounds_toArray, List.set_cons_zero, List.set_cons_succ]
    refine Segs.WL.val (some 94) (.int .i64 ((S.size : Int))) W70 rfl (by kernel_rfl) (by kernel_rfl) ?_
    simp only [Act.put, List.setIfInBounds_toArray, List.set_cons_zero, List.set_cons_succ]
    refine Segs.WL.val (some 95) (.bool (decide ((S.size : Int) < (32 : Int)))) W70 rfl (by kernel_rfl) (by kernel_rfl) ?_
    simp only [Act.put, List.setIfInBounds_toArray, List.set_cons_zero, List.set_cons_succ]
    rw [HLT.out]
    refine Segs.WL.val (some 96) (.bool false) W70 rfl (by kernel_rfl) (by kernel_rfl) ?_
    simp only [Act.put, List.setIfInBounds_toArray, List.set_cons_zero, List.set_cons_succ]
    refine Segs.WL.val (some 97) (.bool false) W70 rfl (by kernel_rfl) (by kernel_rfl) ?_
    simp only [Act.put, List.setIfInBounds_toArray, List.set_cons_zero, List.set_cons_succ]
    refine Segs.WL.nil ?_
    go_upto_region 14 with (fail)
    refine Segs.wp_region_segs Segs.Hist [false, false, false, false, false, false, false, false, false, false, false, false, false, false, false, false, false] Segs.Hist.refl Segs.Hist.trans (by kernel_rfl) (by kernel_rfl) (by kernel_rfl) (Segs.WM.out ?_)
    have K77 := Lib.hid (show Blk W70.drew w.heap.size 25 CS from K71.out)
    have K78 := Lib.hid (show Blk W70.drew (w.heap.size + 1) 25 CM from K72.out)
    have K79 := Lib.hid (show Blk W70.drew bx 25 Z0 from K73.out)
    have K80 := Lib.hid (show Blk W70.drew bs 9 #[.string S] from K74.out)
    have B81 := Lib.hid B75.out.drew
    generalize W70.drew = W76 at K77 K78 K79 K80 B81 ⊢
    refine Segs.WM.val (some 98) (.bool true) rfl (by kernel_rfl) (fun WW h => by kernel_rfl) ?_
    simp only [Act.put, List.setIfInBounds_toArray, List.set_cons_zero, List.set_cons_succ]
    refine Segs.WM.val (some 99) (.bool true) rfl (by kernel_rfl) (fun WW h => by kernel_rfl) ?_
    simp only [Act.put, List.setIfInBounds_toArray, List.set_cons_zero, List.set_cons_succ]
    refine Segs.WM.val (some 100) (.string A) rfl (by kernel_rfl) (fun WW h => by kernel_rfl) ?_
    simp only [Act.put, List.setIfInBounds_toArray, List.set_cons_zero, List.set_cons_succ]
    refine Segs.WM.val (some 101) (.string T) rfl (by kernel_rfl) (fun WW h => by kernel_rfl) ?_
    simp only [Act.put, List.setIfInBounds_toArray, List.set_cons_zero, List.set_cons_succ]
    refine Segs.WM.call (some 102) 13 #[.string T] (.string AT) rfl (by kernel_rfl) (fun W => by kernel_rfl) (fun WW h => REFT.out WW (LA.out _ (Lib.hid (B81.out.call h)).out.1).sha) ?_
    simp only [Act.put, List.setIfInBounds_toArray, List.set_cons_zero, List.set_cons_succ]
    refine Segs.WM.val (some 103) (.bool true) rfl (by kernel_rfl) (fun WW h => run_eqs rfl A AT (by kernel_rfl) (by kernel_rfl) true (HAE.out)) ?_
    simp only [Act.put, List.setIfInBounds_toArray, List.set_cons_zero, List.set_cons_succ]
    refine Segs.WM.val (some 104) (.agg CS) rfl (by kernel_rfl) (fun WW h => Segs.run_row 25 (.tmp 2) rfl w.heap.size (by kernel_rfl) 25 CS _ (Lib.hid (K77.out.below h)).out Tryd.underlying25 rfl (info19 (NCS.out.size))) ?_
    simp only [Act.put, List.setIfInBounds_toArray, List.set_cons_zero, List.set_cons_succ]
    refine Segs.WM.val (some 105) (.agg CM) rfl (by kernel_rfl) (fun WW h => Segs.run_row 25 (.tmp 3) rfl (w.heap.size + 1) (by kernel_rfl) 25 CM _ (Lib.hid (K78.out.below h)).out Tryd.underlying25 rfl (info19 (NCM.out.size))) ?_
    simp only [Act.put, List.setIfInBounds_toArray, List.set_cons_zero, List.set_cons_succ]
    refine Segs.WM.val (some 106) (.bool false) rfl (by kernel_rfl) (fun WW h => run_eql_of rfl CS CM HCS.out HCM.out (by kernel_rfl) (by kernel_rfl) h16 g16 false (HNE.out)) ?_
    simp only [Act.put, List.setIfInBounds_toArray, List.set_cons_zero, List.set_cons_succ]
    refine Segs.WM.val (some 107) (.bool false) rfl (by kernel_rfl) (fun WW h => by kernel_rfl) ?_
    simp only [Act.put, List.setIfInBounds_toArray, List.set_cons_zero, List.set_cons_succ]
    refine Segs.WM.val (some 108) (.bool false) rfl (by kernel_rfl) (fun WW h => by kernel_rfl) ?_
    simp only [Act.put, List.setIfInBounds_toArray, List.set_cons_zero, List.set_cons_succ]
    refine Segs.WM.val (some 109) (.string S) rfl (by kernel_rfl) (fun WW h => by kernel_rfl) ?_
    simp only [Act.put, List.setIfInBounds_toArray, List.set_cons_zero, List.set_cons_succ]
    refine Segs.WM.val (some 110) (.string T) rfl (by kernel_rfl) (fun WW h => by kernel_rfl) ?_
    simp only [Act.put, List.setIfInBounds_toArray, List.set_cons_zero, List.set_cons_succ]
    refine Segs.WM.call (some 111) 17 #[.string S, .string T] (.bool true) rfl (by kernel_rfl) (fun W => by kernel_rfl) (fun WW h => COL.out WW (LA.out _ (Lib.hid (B81.out.call h)).out.1).sha) ?_
    simp only [Act.put, List.setIfInBounds_toArray, List.set_cons_zero, List.set_cons_succ]
    refine Segs.WM.val (some 112) (.bool true) rfl (by kernel_rfl) (fun WW h => by kernel_rfl) ?_
    simp only [Act.put, List.setIfInBounds_toArray, List.set_cons_zero, List.set_cons_succ]
    refine Segs.WM.val (some 113) (.bool true) rfl (by kernel_rfl) (fun WW h => by kernel_rfl) ?_
    simp only [Act.put, List.setIfInBounds_toArray, List.set_cons_zero, List.set_cons_succ]
    refine Segs.WM.val (some 4) (.bool true) rfl (by kernel_rfl) (fun WW h => by kernel_rfl) ?_
    simp only [Act.put, List.setIfInBounds_toArray, List.set_cons_zero, List.set_cons_succ]
    refine Segs.WM.fin (fun W82 hx => ?_)
    have K83 := Lib.hid (K77.out.below hx)
    have K84 := Lib.hid (K78.out.below hx)
    have K85 := Lib.hid (K79.out.below hx)
    have K86 := Lib.hid (K80.out.below hx)
    have B87 := Lib.hid (B81.out.call hx)
    clear hx
    go_wp2_with fail
    go_ret
    exact ⟨rfl, B87.out.1⟩
  · skip
    have HNE := Lib.hid (show decide (a0 = a1) = false from decide_eq_false hne)
    have HAE := Lib.hid (show decide (refB (bytesB a0) = refB (bytesB a1)) = false from decide_eq_false hae)
    obtain ⟨A, hA⟩ : ∃ z, z = refB (bytesB a0) := ⟨_, rfl⟩
    obtain ⟨AT, hAT⟩ : ∃ z, z = refB (bytesB a1) := ⟨_, rfl⟩
    obtain ⟨S, hS⟩ : ∃ z, z = bytesB a0 := ⟨_, rfl⟩
    obtain ⟨T, hT⟩ : ∃ z, z = bytesB a1 := ⟨_, rfl⟩
    rw [← hA] at ref hash inl HAE
    rw [← hAT] at reft HAE
    rw [← hS] at putn ref col HLT ofs
    rw [← hT] at putm reft col
    have PN := Lib.hid putn
    have PM := Lib.hid putm
    have REF := Lib.hid ref
    have REFT := Lib.hid reft
    have HASH := Lib.hid hash
    have INL := Lib.hid inl
    have OF := Lib.hid ofs
    have COL := Lib.hid col
    clear hl fewn fewm hCS hCM hZ0 hfn hfm w0 w1 vn vm putn putm hvn hvm hk hk' hk00 hk10 ref reft hash inl col ofs tell ins bz bz' hs hS hT hA hAT hne hH hX hae
    have B0 := Lib.hid (Bl.start w)
    have K1 := Lib.hid (by have := Blk.new (w) 25 CS; simpa using this : Blk ((w).alloc (.cells CS 25)) w.heap.size 25 CS)
    have B2 := Lib.hid (B0.out.alloc (.cells CS 25))
    have K3 := Lib.hid (K1.out.alloc (.cells CM 25))
    have K4 := Lib.hid (by have := Blk.new (w.alloc (.cells CS 25)) 25 CM; simpa using this : Blk ((w.alloc (.cells CS 25)).alloc (.cells CM 25)) (w.heap.size + 1) 25 CM)
    have B5 := Lib.hid (B2.out.alloc (.cells CM 25))
    go_enter Tryd.func4, Tryd.ntmps4
    go_upto_region 1 with (fail)
    generalize (w.alloc (.cells CS 25)).alloc (.cells CM 25) = W6 at K3 K4 B5 ⊢
    refine wp_region_lit (Segs.WL.out ?_)
    refine Segs.WL.call (some 16) 8 #[] _ rfl (by kernel_rfl) (by kernel_rfl) (WK.out W6 (LA.out _ B5.out.1)) (fun e W7 hR => ?_)
    obtain ⟨rfl, hb⟩ := hR
    refine ⟨_, rfl, ?_⟩
    simp only [Act.put, List.setIfInBounds_toArray, List.set_cons_zero, List.set_cons_succ]
    have K8 := Lib.hid (K3.out.below hb)
    have K9 := Lib.hid (K4.out.below hb)
    have B10 := Lib.hid (B5.out.call hb)
    clear hb
    refine Segs.WL.val (some 5) (.bool true) W7 rfl (by kernel_rfl) (by kernel_rfl) ?_
    simp only [Act.put, List.setIfInBounds_toArray, List.set_cons_zero, List.set_cons_succ]
    refine Segs.WL.nil ?_
    go_upto_region 2 with (fail)
    refine wp_region_lit (Segs.WL.out ?_)
    refine Segs.WL.val (some 17) (.bool true) W7 rfl (by kernel_rfl) (by kernel_rfl) ?_
    simp only [Act.put, List.setIfInBounds_toArray, List.set_cons_zero, List.set_cons_succ]
    refine Segs.WL.val (some 18) (.bool false) W7 rfl (by kernel_rfl) (by kernel_rfl) ?_
    simp only [Act.put, List.setIfInBounds_toArray, List.set_cons_zero, List.set_cons_succ]
    refine Segs.WL.nil ?_
    go_upto_region 4 with (fail)
    refine wp_region_lit (Segs.WL.out ?_)
    refine Segs.WL.val (some 19) (.agg CS) W7 rfl (by kernel_rfl) (Segs.run_row 25 (.tmp 2) rfl w.heap.size (by kernel_rfl) 25 CS _ K8.out Tryd.underlying25 rfl (info19 (NCS.out.size))) ?_
    simp only [Act.put, List.setIfInBounds_toArray, List.set_cons_zero, List.set_cons_succ]
    refine Segs.WL.call (some 20) 9 #[.agg CS] _ rfl (by kernel_rfl) (by kernel_rfl) (FEWN.out W7) (fun e W11 hR => ?_)
    obtain ⟨rfl, hb⟩ := hR
    refine ⟨_, rfl, ?_⟩
    simp only [Act.put, List.setIfInBounds_toArray, List.set_cons_zero, List.set_cons_succ]
    have K12 := Lib.hid (K8.out.below hb)
    have K13 := Lib.hid (K9.out.below hb)
    have B14 := Lib.hid (B10.out.call hb)
    clear hb
    refine Segs.WL.val (some 21) (.bool true) W11 rfl (by kernel_rfl) (by kernel_rfl) ?_
    simp only [Act.put, List.setIfInBounds_toArray, List.set_cons_zero, List.set_cons_succ]
    refine Segs.WL.val (some 22) (.agg CM) W11 rfl (by kernel_rfl) (Segs.run_row 25 (.tmp 3) rfl (w.heap.size + 1) (by kernel_rfl) 25 CM _ K13.out Tryd.underlying25 rfl (info19 (NCM.out.size))) ?_
    simp only [Act.put, List.setIfInBounds_toArray, List.set_cons_zero, List.set_cons_succ]
    refine Segs.WL.call (some 23) 9 #[.agg CM] _ rfl (by kernel_rfl) (by kernel_rfl) (FEWM.out W11) (fun e W15 hR => ?_)
    obtain ⟨rfl, hb⟩ := hR
    refine ⟨_, rfl, ?_⟩
    simp only [Act.put, List.setIfInBounds_toArray, List.set_cons_zero, List.set_cons_succ]
    have K16 := Lib.hid (K12.out.below hb)
    have K17 := Lib.hid (K13.out.below hb)
    have B18 := Lib.hid (B14.out.call hb)
    clear hb
    refine Segs.WL.val (some 24) (.bool true) W15 rfl (by kernel_rfl) (by kernel_rfl) ?_
    simp only [Act.put, List.setIfInBounds_toArray, List.set_cons_zero, List.set_cons_succ]
    refine Segs.WL.val (some 6) (.bool true) W15 rfl (by kernel_rfl) (by kernel_rfl) ?_
    simp only [Act.put, List.setIfInBounds_toArray, List.set_cons_zero, List.set_cons_succ]
    refine Segs.WL.nil ?_
    go_upto_region 5 with (fail)
    refine wp_region_lit (Segs.WL.out ?_)
    refine Segs.WL.val (some 25) (.bool true) W15 rfl (by kernel_rfl) (by kernel_rfl) ?_
    simp only [Act.put, List.setIfInBounds_toArray, List.set_cons_zero, List.set_cons_succ]
    refine Segs.WL.val (some 26) (.bool false) W15 rfl (by kernel_rfl) (by kernel_rfl) ?_
    simp only [Act.put, List.setIfInBounds_toArray, List.set_cons_zero, List.set_cons_succ]
    refine Segs.WL.val (some 27) (.bool false) W15 rfl (by kernel_rfl) (by kernel_rfl) ?_
    simp only [Act.put, List.setIfInBounds_toArray, List.set_cons_zero, List.set_cons_succ]
    refine Segs.WL.val (some 28) (.agg CS) W15 rfl (by kernel_rfl) (Segs.run_row 25 (.tmp 2) rfl w.heap.size (by kernel_rfl) 25 CS _ K16.out Tryd.underlying25 rfl (info19 (NCS.out.size))) ?_
    simp only [Act.put, List.setIfInBounds_toArray, List.set_cons_zero, List.set_cons_succ]
    refine Segs.WL.call (some 29) 12 #[.agg CS] _ rfl (by kernel_rfl) (by kernel_rfl) (VN.out W15 (LA.out _ B18.out.1).err) (fun e W19 hR => ?_)
    obtain ⟨rfl, hb⟩ := hR
    refine ⟨_, rfl, ?_⟩
    simp only [Act.put, List.setIfInBounds_toArray, List.set_cons_zero, List.set_cons_succ]
    have K20 := Lib.hid (K16.out.below hb)
    have K21 := Lib.hid (K17.out.below hb)
    have B22 := Lib.hid (B18.out.call hb)
    clear hb
    refine Segs.WL.val (some 30) (.bool false) W19 rfl (by kernel_rfl) (by kernel_rfl) ?_
    simp only [Act.put, List.setIfInBounds_toArray, List.set_cons_zero, List.set_cons_succ]
    refine Segs.WL.val (some 31) (.bool false) W19 rfl (by kernel_rfl) (by kernel_rfl) ?_
    simp only [Act.put, List.setIfInBounds_toArray, List.set_cons_zero, List.set_cons_succ]
    refine Segs.WL.val (some 32) (.bool false) W19 rfl (by kernel_rfl) (by kernel_rfl) ?_
    simp only [Act.put, List.setIfInBounds_toArray, List.set_cons_zero, List.set_cons_succ]
    refine Segs.WL.val (some 33) (.agg CM) W19 rfl (by kernel_rfl) (Segs.run_row 25 (.tmp 3) rfl (w.heap.size + 1) (by kernel_rfl) 25 CM _ K21.out Tryd.underlying25 rfl (info19 (NCM.out.size))) ?_
    simp only [Act.put, List.setIfInBounds_toArray, List.set_cons_zero, List.set_cons_succ]
    refine Segs.WL.call (some 34) 12 #[.agg CM] _ rfl (by kernel_rfl) (by kernel_rfl) (VM.out W19 (LA.out _ B22.out.1).err) (fun e W23 hR => ?_)
    obtain ⟨rfl, hb⟩ := hR
    refine ⟨_, rfl, ?_⟩
    simp only [Act.put, List.setIfInBounds_toArray, List.set_cons_zero, List.set_cons_succ]
    have K24 := Lib.hid (K20.out.below hb)
    have K25 := Lib.hid (K21.out.below hb)
    have B26 := Lib.hid (B22.out.call hb)
    clear hb
    refine Segs.WL.val (some 35) (.bool false) W23 rfl (by kernel_rfl) (by kernel_rfl) ?_
    simp only [Act.put, List.setIfInBounds_toArray, List.set_cons_zero, List.set_cons_succ]
    refine Segs.WL.val (some 36) (.bool false) W23 rfl (by kernel_rfl) (by kernel_rfl) ?_
    simp only [Act.put, List.setIfInBounds_toArray, List.set_cons_zero, List.set_cons_succ]
    refine Segs.WL.val (some 37) (.bool false) W23 rfl (by kernel_rfl) (by kernel_rfl) ?_
    simp only [Act.put, List.setIfInBounds_toArray, List.set_cons_zero, List.set_cons_succ]
    refine Segs.WL.val (some 38) (.pointer (some ⟨w.heap.size, 0, none⟩)) W23 rfl (by kernel_rfl) (by kernel_rfl) ?_
    simp only [Act.put, List.setIfInBounds_toArray, List.set_cons_zero, List.set_cons_succ]
    refine Segs.WL.val (some 39) (.int .i64 k0) W23 rfl (by kernel_rfl) (Segs.run_cell 22 (.tmp 38) rfl w.heap.size 0 (by kernel_rfl) _ (isAggKind _) (by rw [K24.out.cell]; exact HK0.out)) ?_
    simp only [Act.put, List.setIfInBounds_toArray, List.set_cons_zero, List.set_cons_succ]
    refine Segs.WL.val (some 40) (.bool (decide (k0 = 0))) W23 rfl (by kernel_rfl) (by kernel_rfl) ?_
    simp only [Act.put, List.setIfInBounds_toArray, List.set_cons_zero, List.set_cons_succ]
    rw [DK0.out]
    refine Segs.WL.val (some 41) (.bool false) W23 rfl (by kernel_rfl) (by kernel_rfl) ?_
    simp only [Act.put, List.setIfInBounds_toArray, List.set_cons_zero, List.set_cons_succ]
    refine Segs.WL.val (some 42) (.bool false) W23 rfl (by kernel_rfl) (by kernel_rfl) ?_
    simp only [Act.put, List.setIfInBounds_toArray, List.set_cons_zero, List.set_cons_succ]
    refine Segs.WL.val (some 43) (.pointer (some ⟨(w.heap.size + 1), 0, none⟩)) W23 rfl (by kernel_rfl) (by kernel_rfl) ?_
    simp only [Act.put, List.setIfInBounds_toArray, List.set_cons_zero, List.set_cons_succ]
    refine Segs.WL.val (some 44) (.int .i64 k1) W23 rfl (by kernel_rfl) (Segs.run_cell 22 (.tmp 43) rfl (w.heap.size + 1) 0 (by kernel_rfl) _ (isAggKind _) (by rw [K25.out.cell]; exact HK1.out)) ?_
    simp only [Act.put, List.setIfInBounds_toArray, List.set_cons_zero, List.set_cons_succ]
    refine Segs.WL.val (some 45) (.bool (decide (k1 = 0))) W23 rfl (by kernel_rfl) (by kernel_rfl) ?_
    simp only [Act.put, List.setIfInBounds_toArray, List.set_cons_zero, List.set_cons_succ]
    rw [DK1.out]
    refine Segs.WL.val (some 46) (.bool false) W23 rfl (by kernel_rfl) (by kernel_rfl) ?_
    simp only [Act.put, List.setIfInBounds_toArray, List.set_cons_zero, List.set_cons_succ]
    refine Segs.WL.nil ?_
    go_upto_region 7 with (fail)
    refine wp_region_lit (Segs.WL.out ?_)
    refine Segs.WL.val (some 49) (.agg CS) W23 rfl (by kernel_rfl) (Segs.run_row 25 (.tmp 2) rfl w.heap.size (by kernel_rfl) 25 CS _ K24.out Tryd.underlying25 rfl (info19 (NCS.out.size))) ?_
    simp only [Act.put, List.setIfInBounds_toArray, List.set_cons_zero, List.set_cons_succ]
    refine Segs.WL.call (some 50) 10 #[.agg CS] _ rfl (by kernel_rfl) (by kernel_rfl) (PN.out W23 (LA.out _ B26.out.1).err) (fun e W27 hR => ?_)
    obtain ⟨rfl, hb⟩ := hR
    refine ⟨_, rfl, ?_⟩
    simp only [Act.put, List.setIfInBounds_toArray, List.set_cons_zero, List.set_cons_succ]
    have K28 := Lib.hid (K24.out.below hb)
    have K29 := Lib.hid (K25.out.below hb)
    have B30 := Lib.hid (B26.out.call hb)
    clear hb
    refine Segs.WL.val (some 48) (.tuple #[.string S, .int .i64 0]) W27 rfl (by kernel_rfl) (by kernel_rfl) ?_
    simp only [Act.put, List.setIfInBounds_toArray, List.set_cons_zero, List.set_cons_succ]
    refine Segs.WL.val (some 51) (.string S) W27 rfl (by kernel_rfl) (by kernel_rfl) ?_
    simp only [Act.put, List.setIfInBounds_toArray, List.set_cons_zero, List.set_cons_succ]
    refine Segs.WL.val (some 52) (.int .i64 0) W27 rfl (by kernel_rfl) (by kernel_rfl) ?_
    simp only [Act.put, List.setIfInBounds_toArray, List.set_cons_zero, List.set_cons_succ]
    refine Segs.WL.val (some 7) (.string S) W27 rfl (by kernel_rfl) (by kernel_rfl) ?_
    simp only [Act.put, List.setIfInBounds_toArray, List.set_cons_zero, List.set_cons_succ]
    refine Segs.WL.val (some 8) (.int .i64 0) W27 rfl (by kernel_rfl) (by kernel_rfl) ?_
    simp only [Act.put, List.setIfInBounds_toArray, List.set_cons_zero, List.set_cons_succ]
    refine Segs.WL.nil ?_
    go_upto_region 8 with (fail)
    refine wp_region_lit (Segs.WL.out ?_)
    refine Segs.WL.val (some 54) (.agg CM) W27 rfl (by kernel_rfl) (Segs.run_row 25 (.tmp 3) rfl (w.heap.size + 1) (by kernel_rfl) 25 CM _ K29.out Tryd.underlying25 rfl (info19 (NCM.out.size))) ?_
    simp only [Act.put, List.setIfInBounds_toArray, List.set_cons_zero, List.set_cons_succ]
    refine Segs.WL.call (some 55) 10 #[.agg CM] _ rfl (by kernel_rfl) (by kernel_rfl) (PM.out W27 (LA.out _ B30.out.1).err) (fun e W31 hR => ?_)
    obtain ⟨rfl, hb⟩ := hR
    refine ⟨_, rfl, ?_⟩
    simp only [Act.put, List.setIfInBounds_toArray, List.set_cons_zero, List.set_cons_succ]
    have K32 := Lib.hid (K28.out.below hb)
    have K33 := Lib.hid (K29.out.below hb)
    have B34 := Lib.hid (B30.out.call hb)
    clear hb
    refine Segs.WL.val (some 53) (.tuple #[.string T, .int .i64 0]) W31 rfl (by kernel_rfl) (by kernel_rfl) ?_
    simp only [Act.put, List.setIfInBounds_toArray, List.set_cons_zero, List.set_cons_succ]
    refine Segs.WL.val (some 56) (.string T) W31 rfl (by kernel_rfl) (by kernel_rfl) ?_
    simp only [Act.put, List.setIfInBounds_toArray, List.set_cons_zero, List.set_cons_succ]
    refine Segs.WL.val (some 57) (.int .i64 0) W31 rfl (by kernel_rfl) (by kernel_rfl) ?_
    simp only [Act.put, List.setIfInBounds_toArray, List.set_cons_zero, List.set_cons_succ]
    refine Segs.WL.val (some 9) (.string T) W31 rfl (by kernel_rfl) (by kernel_rfl) ?_
    simp only [Act.put, List.setIfInBounds_toArray, List.set_cons_zero, List.set_cons_succ]
    refine Segs.WL.val (some 10) (.int .i64 0) W31 rfl (by kernel_rfl) (by kernel_rfl) ?_
    simp only [Act.put, List.setIfInBounds_toArray, List.set_cons_zero, List.set_cons_succ]
    refine Segs.WL.nil ?_
    go_upto_region 9 with (fail)
    refine wp_region_lit (Segs.WL.out ?_)
    refine Segs.WL.val (some 58) (.string S) W31 rfl (by kernel_rfl) (by kernel_rfl) ?_
    simp only [Act.put, List.setIfInBounds_toArray, List.set_cons_zero, List.set_cons_succ]
    refine Segs.WL.call (some 59) 13 #[.string S] _ rfl (by kernel_rfl) (by kernel_rfl) (REF.out W31 (LA.out _ B34.out.1).sha) (fun e W35 hR => ?_)
    obtain ⟨rfl, hb⟩ := hR
    refine ⟨_, rfl, ?_⟩
    simp only [Act.put, List.setIfInBounds_toArray, List.set_cons_zero, List.set_cons_succ]
    have K36 := Lib.hid (K32.out.below hb)
    have K37 := Lib.hid (K33.out.below hb)
    have B38 := Lib.hid (B34.out.call hb)
    clear hb
    refine Segs.WL.val (some 11) (.string A) W35 rfl (by kernel_rfl) (by kernel_rfl) ?_
    simp only [Act.put, List.setIfInBounds_toArray, List.set_cons_zero, List.set_cons_succ]
    refine Segs.WL.nil ?_
    go_upto_region 10 with (fail)
    refine wp_region_lit (Segs.WL.out ?_)
    refine Segs.WL.val (some 61) (.string A) W35 rfl (by kernel_rfl) (by kernel_rfl) ?_
    simp only [Act.put, List.setIfInBounds_toArray, List.set_cons_zero, List.set_cons_succ]
    refine Segs.WL.call (some 62) 14 #[.string A] _ rfl (by kernel_rfl) (by kernel_rfl) (HASH.out W35) (fun e W39 hR => ?_)
    obtain ⟨rfl, hb⟩ := hR
    refine ⟨_, rfl, ?_⟩
    simp only [Act.put, List.setIfInBounds_toArray, List.set_cons_zero, List.set_cons_succ]
    have K40 := Lib.hid (K36.out.below hb)
    have K41 := Lib.hid (K37.out.below hb)
    have B42 := Lib.hid (B38.out.call hb)
    clear hb
    refine Segs.WL.val (some 60) (.tuple #[.string H, .bool true]) W39 rfl (by kernel_rfl) (by kernel_rfl) ?_
    simp only [Act.put, List.setIfInBounds_toArray, List.set_cons_zero, List.set_cons_succ]
    refine Segs.WL.val (some 63) (.string H) W39 rfl (by kernel_rfl) (by kernel_rfl) ?_
    simp only [Act.put, List.setIfInBounds_toArray, List.set_cons_zero, List.set_cons_succ]
    refine Segs.WL.val (some 64) (.bool true) W39 rfl (by kernel_rfl) (by kernel_rfl) ?_
    simp only [Act.put, List.setIfInBounds_toArray, List.set_cons_zero, List.set_cons_succ]
    refine Segs.WL.val (some 12) (.string H) W39 rfl (by kernel_rfl) (by kernel_rfl) ?_
    simp only [Act.put, List.setIfInBounds_toArray, List.set_cons_zero, List.set_cons_succ]
    refine Segs.WL.val (some 13) (.bool true) W39 rfl (by kernel_rfl) (by kernel_rfl) ?_
    simp only [Act.put, List.setIfInBounds_toArray, List.set_cons_zero, List.set_cons_succ]
    refine Segs.WL.nil ?_
    go_upto_region 11 with (fail)
    refine wp_region_lit (Segs.WL.out ?_)
    refine Segs.WL.val (some 66) (.string A) W39 rfl (by kernel_rfl) (by kernel_rfl) ?_
    simp only [Act.put, List.setIfInBounds_toArray, List.set_cons_zero, List.set_cons_succ]
    refine Segs.WL.call (some 67) 15 #[.string A] _ rfl (by kernel_rfl) (by kernel_rfl) (INL.out W39 (LA.out _ B42.out.1).err) (fun e W43 hR => ?_)
    obtain ⟨rfl, hb⟩ := hR
    refine ⟨_, rfl, ?_⟩
    simp only [Act.put, List.setIfInBounds_toArray, List.set_cons_zero, List.set_cons_succ]
    have K44 := Lib.hid (K40.out.below hb)
    have K45 := Lib.hid (K41.out.below hb)
    have B46 := Lib.hid (B42.out.call hb)
    clear hb
    refine Segs.WL.val (some 65) (.tuple #[.agg Z0, .bool false]) W43 rfl (by kernel_rfl) (by kernel_rfl) ?_
    simp only [Act.put, List.setIfInBounds_toArray, List.set_cons_zero, List.set_cons_succ]
    refine Segs.WL.val (some 68) (.agg Z0) W43 rfl (by kernel_rfl) (by kernel_rfl) ?_
    simp only [Act.put, List.setIfInBounds_toArray, List.set_cons_zero, List.set_cons_succ]
    refine Segs.WL.val (some 69) (.bool false) W43 rfl (by kernel_rfl) (by kernel_rfl) ?_
    simp only [Act.put, List.setIfInBounds_toArray, List.set_cons_zero, List.set_cons_succ]
    obtain ⟨bx, hbx⟩ : ∃ n, n = W43.heap.size := ⟨_, rfl⟩
    have K48 := Lib.hid (K44.out.alloc (.cells Z0 25))
    have ne49 : w.heap.size ≠ bx := by have := K44.out.lt; omega
    have K50 := Lib.hid (K45.out.alloc (.cells Z0 25))
    have ne51 : (w.heap.size + 1) ≠ bx := by have := K45.out.lt; omega
    have K52 := Lib.hid (by have := Blk.new W43 25 Z0; rw [← hbx] at this; exact this : Blk (W43.alloc (.cells Z0 25)) bx 25 Z0)
    have B53 := Lib.hid (B46.out.alloc (.cells Z0 25))
    have ge54 : w.heap.size ≤ bx := by rw [hbx]; exact B46.out.2
    refine Segs.WL.val (some 14) (.pointer (some ⟨bx, 0, none⟩)) (W43.alloc (.cells Z0 25)) rfl (by kernel_rfl) (by rw [hbx]; exact Segs.run_allocOf rfl Z0 (al_nd0 HZ.out)) ?_
    simp only [Act.put, List.setIfInBounds_toArray, List.set_cons_zero, List.set_cons_succ]
    generalize W43.alloc (.cells Z0 25) = W47 at K48 K50 K52 B53 ⊢
    clear hbx
    have K56 := Lib.hid (K48.out.rowOther (g' := bx) (cs := Z0) ne49)
    have K57 := Lib.hid (K50.out.rowOther (g' := bx) (cs := Z0) ne51)
    have K58 := Lib.hid (K52.out.row (cs := Z0))
    have B59 := Lib.hid (Bl.setRow B53.out (g := bx) ge54 Z0)
    refine Segs.WL.skip (W47.setRow bx Z0) rfl (by kernel_rfl) (Segs.run_storeRow rfl bx Z0 (by kernel_rfl) (by kernel_rfl) 25 Z0 K52.out (info19 NZ.out.size) (NZ.out.size.trans NZ.out.size.symm) NZ.out.one) ?_
    generalize W47.setRow bx Z0 = W55 at K56 K57 K58 B59 ⊢
    refine Segs.WL.val (some 15) (.bool false) W55 rfl (by kernel_rfl) (by kernel_rfl) ?_
    simp only [Act.put, List.setIfInBounds_toArray, List.set_cons_zero, List.set_cons_succ]
    refine Segs.WL.nil ?_
    go_upto_region 12 with (fail)
    refine wp_region_lit (Segs.WL.out ?_)
    refine Segs.WL.val (some 70) (.bool true) W55 rfl (by kernel_rfl) (by kernel_rfl) ?_
    simp only [Act.put, List.setIfInBounds_toArray, List.set_cons_zero, List.set_cons_succ]
    refine Segs.WL.val (some 71) (.bool false) W55 rfl (by kernel_rfl) (by kernel_rfl) ?_
    simp only [Act.put, List.setIfInBounds_toArray, List.set_cons_zero, List.set_cons_succ]
    refine Segs.WL.val (some 72) (.bool false) W55 rfl (by kernel_rfl) (by kernel_rfl) ?_
    simp only [Act.put, List.setIfInBounds_toArray, List.set_cons_zero, List.set_cons_succ]
    refine Segs.WL.val (some 73) (.bool false) W55 rfl (by kernel_rfl) (by kernel_rfl) ?_
    simp only [Act.put, List.setIfInBounds_toArray, List.set_cons_zero, List.set_cons_succ]
    refine Segs.WL.val (some 74) (.bool false) W55 rfl (by kernel_rfl) (by kernel_rfl) ?_
    simp only [Act.put, List.setIfInBounds_toArray, List.set_cons_zero, List.set_cons_succ]
    refine Segs.WL.val (some 75) (.bool false) W55 rfl (by kernel_rfl) (by kernel_rfl) ?_
    simp only [Act.put, List.setIfInBounds_toArray, List.set_cons_zero, List.set_cons_succ]
    refine Segs.WL.not (some 76) rfl (by kernel_rfl) ?_
    simp only [Act.put, List.setIfInBounds_toArray, List.set_cons_zero, List.set_cons_succ]
    refine Segs.WL.not (some 77) rfl (by kernel_rfl) ?_
    simp only [Act.put, List.setIfInBounds_toArray, List.set_cons_zero, List.set_cons_succ]
    refine Segs.WL.not (some 78) rfl (by kernel_rfl) ?_
    simp only [Act.put, List.setIfInBounds_toArray, List.set_cons_zero, List.set_cons_succ]
    refine Segs.WL.val (some 79) (.bool false) W55 rfl (by kernel_rfl) (by kernel_rfl) ?_
    simp only [Act.put, List.setIfInBounds_toArray, List.set_cons_zero, List.set_cons_succ]
    refine Segs.WL.val (some 80) (.bool false) W55 rfl (by kernel_rfl) (by kernel_rfl) ?_
    simp only [Act.put, List.setIfInBounds_toArray, List.set_cons_zero, List.set_cons_succ]
    refine Segs.WL.val (some 81) (.bool false) W55 rfl (by kernel_rfl) (by kernel_rfl) ?_
    simp only [Act.put, List.setIfInBounds_toArray, List.set_cons_zero, List.set_cons_succ]
    refine Segs.WL.val (some 82) (.bool true) W55 rfl (by kernel_rfl) (by kernel_rfl) ?_
    simp only [Act.put, List.setIfInBounds_toArray, List.set_cons_zero, List.set_cons_succ]
    refine Segs.WL.val (some 83) (.bool true) W55 rfl (by kernel_rfl) (by kernel_rfl) ?_
    simp only [Act.put, List.setIfInBounds_toArray, List.set_cons_zero, List.set_cons_succ]
    refine Segs.WL.val (some 84) (.string H) W55 rfl (by kernel_rfl) (by kernel_rfl) ?_
    simp only [Act.put, List.setIfInBounds_toArray, List.set_cons_zero, List.set_cons_succ]
    refine Segs.WL.val (some 85) (.string S) W55 rfl (by kernel_rfl) (by kernel_rfl) ?_
    simp only [Act.put, List.setIfInBounds_toArray, List.set_cons_zero, List.set_cons_succ]
    obtain ⟨bs, hbs⟩ : ∃ n, n = W55.heap.size := ⟨_, rfl⟩
    have K61 := Lib.hid (K56.out.alloc (.cells #[.string S] 9))
    have ne62 : w.heap.size ≠ bs := by have := K56.out.lt; omega
    have K63 := Lib.hid (K57.out.alloc (.cells #[.string S] 9))
    have ne64 : (w.heap.size + 1) ≠ bs := by have := K57.out.lt; omega
    have K65 := Lib.hid (K58.out.alloc (.cells #[.string S] 9))
    have ne66 : bx ≠ bs := by have := K58.out.lt; omega
    have K67 := Lib.hid (by have := Blk.new W55 9 #[.string S]; rw [← hbs] at this; exact this : Blk (W55.alloc (.cells #[.string S] 9)) bs 9 #[.string S])
    have B68 := Lib.hid (B59.out.alloc (.cells #[.string S] 9))
    have ge69 : w.heap.size ≤ bs := by rw [hbs]; exact B59.out.2
    refine Segs.WL.val (some 86) (.slice (some ⟨bs, 0, none⟩) 1 1) (W55.alloc (.cells #[.string S] 9)) rfl (by kernel_rfl) (by rw [hbs]; exact Segs.run_slice_of 42 9 1 _ rfl _ Tryd.underlying42 (by kernel_rfl)) ?_
    simp only [Act.put, List.setIfInBounds_toArray, List.set_cons_zero, List.set_cons_succ]
    generalize W55.alloc (.cells #[.string S] 9) = W60 at K61 K63 K65 K67 B68 ⊢
    clear hbs
    refine Segs.WL.call (some 87) 16 #[.slice (some ⟨bs, 0, none⟩) 1 1] _ rfl (by kernel_rfl) (by kernel_rfl) (OF.out bs W60 (LA.out _ B68.out.1).sha K67.out) (fun e W70 hR => ?_)
    obtain ⟨rfl, hb⟩ := hR
    refine ⟨_, rfl, ?_⟩
    simp only [Act.put, List.setIfInBounds_toArray, List.set_cons_zero, List.set_cons_succ]
    have K71 := Lib.hid (K61.out.below hb)
    have K72 := Lib.hid (K63.out.below hb)
    have K73 := Lib.hid (K65.out.below hb)
    have K74 := Lib.hid (K67.out.below hb)
    have B75 := Lib.hid (B68.out.call hb)
    clear hb
    refine Segs.WL.val (some 88) (.bool !true) W70 rfl (by kernel_rfl) (run_nes rfl H H (by kernel_rfl) (by kernel_rfl) true (by first | rfl | exact decide_eq_true rfl)) ?_
    simp only [Act.put, List.setIfInBounds_toArray, List.set_cons_zero, List.set_cons_succ]
    refine Segs.WL.val (some 89) (.bool false) W70 rfl (by kernel_rfl) (by kernel_rfl) ?_
    simp only [Act.put, List.setIfInBounds_toArray, List.set_cons_zero, List.set_cons_succ]
    refine Segs.WL.val (some 90) (.bool false) W70 rfl (by kernel_rfl) (by kernel_rfl) ?_
    simp only [Act.put, List.setIfInBounds_toArray, List.set_cons_zero, List.set_cons_succ]
    refine Segs.WL.val (some 91) (.bool false) W70 rfl (by kernel_rfl) (by kernel_rfl) ?_
    simp only [Act.put, List.setIfInBounds_toArray, List.set_cons_zero, List.set_cons_succ]
    refine Segs.WL.val (some 92) (.bool false) W70 rfl (by kernel_rfl) (by kernel_rfl) ?_
    simp only [Act.put, List.setIfInBounds_toArray, List.set_cons_zero, List.set_cons_succ]
    refine Segs.WL.val (some 93) (.string S) W70 rfl (by kernel_rfl) (by kernel_rfl) ?_
    simp only [Act.put, List.setIfInBounds_toArray, List.set_cons_zero, List.set_cons_succ]
    refine Segs.WL.val (some 94) (.int .i64 ((S.size : Int))) W70 rfl (by kernel_rfl) (by kernel_rfl) ?_
    simp only [Act.put, List.setIfInBounds_toArray, List.set_cons_zero, List.set_cons_succ]
    refine Segs.WL.val (some 95) (.bool (decide ((S.size : Int) < (32 : Int)))) W70 rfl (by kernel_rfl) (by kernel_rfl) ?_
    simp only [Act.put, List.setIfInBounds_toArray, List.set_cons_zero, List.set_cons_succ]
    rw [HLT.out]
    refine Segs.WL.val (some 96) (.bool false) W70 rfl (by kernel_rfl) (by kernel_rfl) ?_
    simp only [Act.put, List.setIfInBounds_toArray, List.set_cons_zero, List.set_cons_succ]
    refine Segs.WL.val (some 97) (.bool false) W70 rfl (by kernel_rfl) (by kernel_rfl) ?_
    simp only [Act.put, List.setIfInBounds_toArray, List.set_cons_zero, List.set_cons_succ]
    refine Segs.WL.nil ?_
    go_upto_region 14 with (fail)
    refine Segs.wp_region_segs Segs.Hist [false, false, false, false, false, false, false, false, false, false, false, false, false, false, false, false, false] Segs.Hist.refl Segs.Hist.trans (by kernel_rfl) (by kernel_rfl) (by kernel_rfl) (Segs.WM.out ?_)
    have K77 := Lib.hid (show Blk W70.drew w.heap.size 25 CS from K71.out)
    have K78 := Lib.hid (show Blk W70.drew (w.heap.size + 1) 25 CM from K72.out)
    have K79 := Lib.hid (show Blk W70.drew bx 25 Z0 from K73.out)
    have K80 := Lib.hid (show Blk W70.drew bs 9 #[.string S] from K74.out)
    have B81 := Lib.hid B75.out.drew
    generalize W70.drew = W76 at K77 K78 K79 K80 B81 ⊢
    refine Segs.WM.val (some 98) (.bool true) rfl (by kernel_rfl) (fun WW h => by kernel_rfl) ?_
    simp only [Act.put, List.setIfInBounds_toArray, List.set_cons_zero, List.set_cons_succ]
    refine Segs.WM.val (some 99) (.bool true) rfl (by kernel_rfl) (fun WW h => by kernel_rfl) ?_
    simp only [Act.put, List.setIfInBounds_toArray, List.set_cons_zero, List.set_cons_succ]
    refine Segs.WM.val (some 100) (.string A) rfl (by kernel_rfl) (fun WW h => by kernel_rfl) ?_
    simp only [Act.put, List.setIfInBounds_toArray, List.set_cons_zero, List.set_cons_succ]
    refine Segs.WM.val (some 101) (.string T) rfl (by kernel_rfl) (fun WW h => by kernel_rfl) ?_
    simp only [Act.put, List.setIfInBounds_toArray, List.set_cons_zero, List.set_cons_succ]
    refine Segs.WM.call (some 102) 13 #[.string T] (.string AT) rfl (by kernel_rfl) (fun W => by kernel_rfl) (fun WW h => REFT.out WW (LA.out _ (Lib.hid (B81.out.call h)).out.1).sha) ?_
    simp only [Act.put, List.setIfInBounds_toArray, List.set_cons_zero, List.set_cons_succ]
    refine Segs.WM.val (some 103) (.bool false) rfl (by kernel_rfl) (fun WW h => run_eqs rfl A AT (by kernel_rfl) (by kernel_rfl) false (HAE.out)) ?_
    simp only [Act.put, List.setIfInBounds_toArray, List.set_cons_zero, List.set_cons_succ]
    refine Segs.WM.val (some 104) (.agg CS) rfl (by kernel_rfl) (fun WW h => Segs.run_row 25 (.tmp 2) rfl w.heap.size (by kernel_rfl) 25 CS _ (Lib.hid (K77.out.below h)).out Tryd.underlying25 rfl (info19 (NCS.out.size))) ?_
    simp only [Act.put, List.setIfInBounds_toArray, List.set_cons_zero, List.set_cons_succ]
    refine Segs.WM.val (some 105) (.agg CM) rfl (by kernel_rfl) (fun WW h => Segs.run_row 25 (.tmp 3) rfl (w.heap.size + 1) (by kernel_rfl) 25 CM _ (Lib.hid (K78.out.below h)).out Tryd.underlying25 rfl (info19 (NCM.out.size))) ?_
    simp only [Act.put, List.setIfInBounds_toArray, List.set_cons_zero, List.set_cons_succ]
    refine Segs.WM.val (some 106) (.bool false) rfl (by kernel_rfl) (fun WW h => run_eql_of rfl CS CM HCS.out HCM.out (by kernel_rfl) (by kernel_rfl) h16 g16 false (HNE.out)) ?_
    simp only [Act.put, List.setIfInBounds_toArray, List.set_cons_zero, List.set_cons_succ]
    refine Segs.WM.val (some 107) (.bool true) rfl (by kernel_rfl) (fun WW h => by kernel_rfl) ?_
    simp only [Act.put, List.setIfInBounds_toArray, List.set_cons_zero, List.set_cons_succ]
    refine Segs.WM.val (some 108) (.bool true) rfl (by kernel_rfl) (fun WW h => by kernel_rfl) ?_
    simp only [Act.put, List.setIfInBounds_toArray, List.set_cons_zero, List.set_cons_succ]
    refine Segs.WM.not (some 109) rfl (by kernel_rfl) ?_
    simp only [Act.put, List.setIfInBounds_toArray, List.set_cons_zero, List.set_cons_succ]
    refine Segs.WM.not (some 110) rfl (by kernel_rfl) ?_
    simp only [Act.put, List.setIfInBounds_toArray, List.set_cons_zero, List.set_cons_succ]
    refine Segs.WM.not (some 111) rfl (by kernel_rfl) ?_
    simp only [Act.put, List.setIfInBounds_toArray, List.set_cons_zero, List.set_cons_succ]
    refine Segs.WM.val (some 112) (.bool true) rfl (by kernel_rfl) (fun WW h => by kernel_rfl) ?_
    simp only [Act.put, List.setIfInBounds_toArray, List.set_cons_zero, List.set_cons_succ]
    refine Segs.WM.val (some 113) (.bool true) rfl (by kernel_rfl) (fun WW h => by kernel_rfl) ?_
    simp only [Act.put, List.setIfInBounds_toArray, List.set_cons_zero, List.set_cons_succ]
    refine Segs.WM.val (some 4) (.bool true) rfl (by kernel_rfl) (fun WW h => by kernel_rfl) ?_
    simp only [Act.put, List.setIfInBounds_toArray, List.set_cons_zero, List.set_cons_succ]
    refine Segs.WM.fin (fun W82 hx => ?_)
    have K83 := Lib.hid (K77.out.below hx)
    have K84 := Lib.hid (K78.out.below hx)
    have K85 := Lib.hid (K79.out.below hx)
    have K86 := Lib.hid (K80.out.below hx)
    have B87 := Lib.hid (B81.out.call hx)
    clear hx
    go_wp2_with fail
    go_ret
    exact ⟨rfl, B87.out.1⟩
set_option maxRecDepth 100000 in
theorem lifted (os : Os) (started : os.Started) (H : Type) (enc : TypeId × Value → H) :
    ReturnsInHanded {} Tryd.checked os 4 .any (fun w args => (Rows.nodeRefsSpec.pre enc Tryd.prog Tryd.f4 [] false w args ∧ laidMetH Tryd.prog Rows.nodeRefsRow.laid w) ∧ sizedMet enc Tryd.prog Tryd.f4 (OpenSpec.ofChange Rows.nodeRefsSpec) false w args)
      (Rows.nodeRefsSpec.post enc Tryd.prog Tryd.f4 false true false false) := by
  refine returnsInHanded_of_change_and (C := Tryd.checked) (X := fun w _ => laidMetH Tryd.prog Rows.nodeRefsRow.laid w) (fun _ _ _ hh h => h.of_heap hh) own started (by kernel_rfl) Tryd.func4
    (ChangeSpec.witness_shaped (enc := enc) (C := Tryd.checked) (os := os) (X := fun w _ => laidMetH Tryd.prog Rows.nodeRefsRow.laid w) false (World.doorLaid Tryd.prog 400 os) #[.agg #[.int .i64 0, .string ByteArray.empty, .string ByteArray.empty, .string ByteArray.empty, .string ByteArray.empty, .string ByteArray.empty, .string ByteArray.empty, .string ByteArray.empty, .string ByteArray.empty, .string ByteArray.empty, .string ByteArray.empty, .string ByteArray.empty, .string ByteArray.empty, .string ByteArray.empty, .string ByteArray.empty, .string ByteArray.empty, .string ByteArray.empty, .string ByteArray.empty, .string ByteArray.empty], .agg #[.int .i64 0, .string ByteArray.empty, .string ByteArray.empty, .string ByteArray.empty, .string ByteArray.empty, .string ByteArray.empty, .string ByteArray.empty, .string ByteArray.empty, .string ByteArray.empty, .string ByteArray.empty, .string ByteArray.empty, .string ByteArray.empty, .string ByteArray.empty, .string ByteArray.empty, .string ByteArray.empty, .string ByteArray.empty, .string ByteArray.empty, .string ByteArray.empty, .string ByteArray.empty]] 8 rfl (World.shaped_of_RefB (by kernel_rfl) (by kernel_rfl)) (by kernel_rfl) (by kernel_rfl) (by kernel_rfl) (door_met os _)) ?_
  intro W base args ds gs before hval0 hW _ _ hL _
  have hval : ∀ (j : Nat) t v, Tryd.f4.params[j]? = some t → args[j]? = some v → Value.okWide Tryd.prog W .any base t v := hval0
  have hW' := hW
  obtain ⟨p, q, hA0, hV, rfl, hfz, hnd⟩ := hW
  have hA : DataW.TrodAll enc Tryd.prog W 0 (fun _ => true) true Tryd.f4.params.toList args.toList ds p := hA0
  rw [Tryd.params4] at hA hval
  obtain ⟨v0, vs0, d0, ds0, p0, q0, hargs, rfl, rfl, h0, r0⟩ := trodAll_cons hA
  obtain ⟨v1, vs1, d1, ds1, p1, q1, rfl, rfl, rfl, h1, r1⟩ := trodAll_cons r0
  obtain ⟨rfl, rfl, rfl⟩ := trodAll_nil r1
  obtain rfl : args = #[v0, v1] := by cases args; simp_all
  obtain ⟨rfl, rfl⟩ := trodVars_none hV
  obtain ⟨a0, rfl, rfl, rfl, w0⟩ := open_nd (hval 0 25 v0 rfl rfl) h0
  obtain ⟨a1, rfl, rfl, rfl, w1⟩ := open_nd (hval 1 25 v1 rfl rfl) h1
  have hl : LaidN W := laid_of hL
  clear hA0 hval0
  simp only [List.append_nil] at hW'
  refine (walk a0 a1 w0 w1 W hl).mono fun e W' ⟨he, bel⟩ => ?_
  subst he
  exact ⟨_, rfl, _, _, _, [], [], [], hW', trodAll_mk1 (shut_bool Tryd.underlying4 _), (trodAll_cons_mk (shut_nd w0) (trodAll_cons_mk (shut_nd w1) trodAll_mk0)), rfl, bel.frame _, fun h => by cases h⟩
theorem over : Rows.NodeRefsSaid :=
  OpenClaim.holds_of_wide 4 Tryd.f4 rfl rfl rfl rfl rfl rfl rfl ⟨rfl, rfl, rfl, rfl, rfl⟩ rfl rfl rfl rfl rfl (by kernel_rfl) Tryd.func4 (by kernel_rfl)
    (of_decide_eq_true (by kernel_rfl)) (by unfold Func.isWrapper; rw [if_neg (by decide +kernel)]; exact ⟨rfl, rfl⟩)
    (fun os started H enc _ => lifted os started H enc)
theorem proved : Rows.NodeRefsCardSaid :=
  Claim7.holds_tied_plain_at .later [] [.data, .data, .handle] true Rows.nodeRefsCard.stood.harness true
    over (fun _ h => by cases h) (by kernel_rfl) (fun _ h => by cases h) nodeRefs_row_tie rfl ⟨rfl, rfl⟩ (by kernel_rfl) rfl
    (fun f fn hf hfn => by
      obtain rfl : f = 4 := Option.some.inj ((show Tryd.prog.funcNamed "guilloche/guillochelaw04.NodeRefs" = some 4 by kernel_rfl).symm.trans hf) |>.symm
      obtain rfl : fn = Tryd.f4 := (Option.some.inj (Tryd.func4.symm.trans hfn)).symm
      exact ⟨by kernel_rfl, fun j t ht => by
        rw [Tryd.params4] at ht
        have hm : t ∈ [25, 25] := by simpa using Array.mem_of_getElem? ht
        have hall : ([25, 25].all fun u => !Tryd.prog.wantsStandIn u) = true := by kernel_rfl
        exact (show Tryd.prog.wantsStandIn t = false by simpa using List.all_eq_true.1 hall t hm)⟩)
    (by kernel_rfl)
end Go.Proofs.YtljadanalcfdeaaDoor.nodeRefs

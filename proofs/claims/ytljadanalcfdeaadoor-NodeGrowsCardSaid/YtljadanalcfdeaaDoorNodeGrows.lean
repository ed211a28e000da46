/-
  PROVED HERE: the law NodeGrows returns true for every two nodes and every place (a branch with one ref more refers to one hash more, or to those of the node inline). What sha's tables and errors.errorType hold is as the program lays it (tied).
-/
import Derived.Test.YtljadanalcfdeaaDoorNodeGrowsP
import Derived.Test.YtljadanalcfdeaaDoorCards
import Derived.Test.YtljadanalcfdeaaDoorTie
import Derived.WalkKit
import Derived.ProofKit
import Derived.LaidMore
import Derived.OpenShut
import Derived.ShutString
import Derived.ChangeOld
import Derived.Below
import Derived.Stop.Joined
import Derived.SevenTiedAt
namespace Go.Proofs.YtljadanalcfdeaaDoor.nodeGrows
open Go.ChangeShapes Go.WideShapes Go.ChangeAt Go.RowKit Go.Proofs.Nod
open Go.ChangeMaps (open_string shut_string)
set_option linter.unusedVariables false
set_option linter.unusedSimpArgs false
set_option maxRecDepth 100000 in
set_option maxHeartbeats 32000000 in
theorem walk (a0 : Nd) (a1 : Nd) (a2 : Int) (w0 : NdOk a0) (w1 : NdOk a1) (w2 : (Lit.int .u8 a2).wf = true) (w : World) (hl : LaidN w) :
    Calls Tryd.prog 7 #[.agg (ndC a0), .agg (ndC a1), .int .u8 a2] w fun e w' => e = .returned (.bool true) ∧ Below w.heap.size w w' := by
  have WK := Lib.hid (fun W h => nworks_any W h)
  have LA : Hid (∀ W, Below w.heap.size w W → LaidN W) := Lib.hid (fun W h => hl.on h)
  have fewn := fun W => few_any a0 W (fun i hi => w0.each _ (rf_mem a0 i hi)) w0.path w0.value
  have fewm := fun W => few_any a1 W (fun i hi => w1.each _ (rf_mem a1 i hi)) w1.path w1.value
  have h16 := w0.refs
  have g16 := w1.refs
  obtain ⟨CS, hCS⟩ : ∃ z, z = ndC a0 := ⟨_, rfl⟩
  have NCS := Lib.hid (show Ndc CS by rw [hCS]; exact .of _)
  obtain ⟨CM, hCM⟩ : ∃ z, z = ndC a1 := ⟨_, rfl⟩
  have NCM := Lib.hid (show Ndc CM by rw [hCM]; exact .of _)
  obtain ⟨Z0, hZ0⟩ : ∃ z, z = ndC zeroN := ⟨_, rfl⟩
  have NZ := Lib.hid (show Ndc Z0 by rw [hZ0]; exact .of _)
  have HZ := Lib.hid hZ0
  have hk0 : CS[0]? = some (.int .i64 a0.kind) := by rw [hCS]; rfl
  have hk1 : CM[0]? = some (.int .i64 a1.kind) := by rw [hCM]; rfl
  have vn := fun W h => wk_valid a0 h16 W h
  have vm := fun W h => wk_valid a1 g16 W h
  have putn := fun W h => put_all a0 W h16 (fun r _ h => get_any r (by omega)) h
  have putm := fun W h => put_all a1 W g16 (fun r _ h => get_any r (by omega)) h
  unfold Ptd putB at putn putm
  rw [← hCS] at fewn vn putn ⊢
  rw [← hCM] at fewm vm putm ⊢
  have HCS := Lib.hid hCS
  have HCM := Lib.hid hCM
  obtain ⟨k0, hk⟩ : ∃ k, k = a0.kind := ⟨_, rfl⟩
  obtain ⟨k1, hk'⟩ : ∃ k, k = a1.kind := ⟨_, rfl⟩
  rw [← hk] at hk0
  rw [← hk'] at hk1
  have HK0 := Lib.hid hk0
  have HK1 := Lib.hid hk1
  clear hk0 hk1
  have h0 : 0 ≤ a2 ∧ a2 ≤ 255 := by
    have g0 : IntKind.u8.min ≤ a2 ∧ a2 ≤ IntKind.u8.max := by simpa [Lit.wf] using w2
    exact g0
  obtain ⟨p, rfl⟩ : ∃ p : Nat, a2 = p := ⟨a2.toNat, by omega⟩
  have hp : p ≤ 255 := by omega
  have HP8 := Lib.hid hp
  clear h0
  rcases hfn : fewB a0 with _ | _
  · rw [hfn] at fewn
    have FEWN := Lib.hid fewn
    clear hl fewn fewm hCS hCM hZ0 hfn w0 w1 h16 g16 vn vm putn putm hk hk' w2 hp
    have B0 := Lib.hid (Bl.start w)
    have K1 := Lib.hid (by have := Blk.new (w) 25 CS; simpa using this : Blk ((w).alloc (.cells CS 25)) w.heap.size 25 CS)
    have B2 := Lib.hid (B0.out.alloc (.cells CS 25))
    have K3 := Lib.hid (K1.out.alloc (.cells CM 25))
    have K4 := Lib.hid (by have := Blk.new (w.alloc (.cells CS 25)) 25 CM; simpa using this : Blk ((w.alloc (.cells CS 25)).alloc (.cells CM 25)) (w.heap.size + 1) 25 CM)
    have B5 := Lib.hid (B2.out.alloc (.cells CM 25))
    go_enter Tryd.func7, Tryd.ntmps7
    go_upto_region 1 with (fail)
    generalize (w.alloc (.cells CS 25)).alloc (.cells CM 25) = W6 at K3 K4 B5 ⊢
    refine wp_region_lit (Segs.WL.out ?_)
    refine Segs.WL.call (some 15) 8 #[] _ rfl (by kernel_rfl) (by kernel_rfl) (WK.out W6 (LA.out _ B5.out.1)) (fun e W7 hR => ?_)
    obtain ⟨rfl, hb⟩ := hR
    refine ⟨_, rfl, ?_⟩
    simp only [Act.put, List.setIfInBounds_toArray, List.set_cons_zero, List.set_cons_succ]
    have K8 := Lib.hid (K3.out.below hb)
    have K9 := Lib.hid (K4.out.below hb)
    have B10 := Lib.hid (B5.out.call hb)
    clear hb
    refine Segs.WL.val (some 7) (.bool true) W7 rfl (by kernel_rfl) (by kernel_rfl) ?_
    simp only [Act.put, List.setIfInBounds_toArray, List.set_cons_zero, List.set_cons_succ]
    refine Segs.WL.nil ?_
    go_upto_region 2 with (fail)
    refine wp_region_lit (Segs.WL.out ?_)
    refine Segs.WL.val (some 16) (.bool true) W7 rfl (by kernel_rfl) (by kernel_rfl) ?_
    simp only [Act.put, List.setIfInBounds_toArray, List.set_cons_zero, List.set_cons_succ]
    refine Segs.WL.val (some 17) (.bool false) W7 rfl (by kernel_rfl) (by kernel_rfl) ?_
    simp only [Act.put, List.setIfInBounds_toArray, List.set_cons_zero, List.set_cons_succ]
    refine Segs.WL.nil ?_
    go_upto_region 4 with (fail)
    refine wp_region_lit (Segs.WL.out ?_)
    refine Segs.WL.val (some 18) (.agg CS) W7 rfl (by kernel_rfl) (Segs.run_row 25 (.tmp 3) rfl w.heap.size (by kernel_rfl) 25 CS _ K8.out Tryd.underlying25 rfl (info19 (NCS.out.size))) ?_
    simp only [Act.put, List.setIfInBounds_toArray, List.set_cons_zero, List.set_cons_succ]
    refine Segs.WL.call (some 19) 9 #[.agg CS] _ rfl (by kernel_rfl) (by kernel_rfl) (FEWN.out W7) (fun e W11 hR => ?_)
    obtain ⟨rfl, hb⟩ := hR
    refine ⟨_, rfl, ?_⟩
    simp only [Act.put, List.setIfInBounds_toArray, List.set_cons_zero, List.set_cons_succ]
    have K12 := Lib.hid (K8.out.below hb)
    have K13 := Lib.hid (K9.out.below hb)
    have B14 := Lib.hid (B10.out.call hb)
    clear hb
    refine Segs.WL.val (some 20) (.bool false) W11 rfl (by kernel_rfl) (by kernel_rfl) ?_
    simp only [Act.put, List.setIfInBounds_toArray, List.set_cons_zero, List.set_cons_succ]
    refine Segs.WL.not (some 21) rfl (by kernel_rfl) ?_
    simp only [Act.put, List.setIfInBounds_toArray, List.set_cons_zero, List.set_cons_succ]
    refine Segs.WL.not (some 22) rfl (by kernel_rfl) ?_
    simp only [Act.put, List.setIfInBounds_toArray, List.set_cons_zero, List.set_cons_succ]
    refine Segs.WL.val (some 23) (.bool false) W11 rfl (by kernel_rfl) (by kernel_rfl) ?_
    simp only [Act.put, List.setIfInBounds_toArray, List.set_cons_zero, List.set_cons_succ]
    refine Segs.WL.val (some 8) (.bool false) W11 rfl (by kernel_rfl) (by kernel_rfl) ?_
    simp only [Act.put, List.setIfInBounds_toArray, List.set_cons_zero, List.set_cons_succ]
    refine Segs.WL.nil ?_
    go_upto_region 5 with (fail)
    refine wp_region_lit (Segs.WL.out ?_)
    refine Segs.WL.val (some 24) (.bool false) W11 rfl (by kernel_rfl) (by kernel_rfl) ?_
    simp only [Act.put, List.setIfInBounds_toArray, List.set_cons_zero, List.set_cons_succ]
    refine Segs.WL.val (some 25) (.bool true) W11 rfl (by kernel_rfl) (by kernel_rfl) ?_
    simp only [Act.put, List.setIfInBounds_toArray, List.set_cons_zero, List.set_cons_succ]
    refine Segs.WL.val (some 26) (.bool true) W11 rfl (by kernel_rfl) (by kernel_rfl) ?_
    simp only [Act.put, List.setIfInBounds_toArray, List.set_cons_zero, List.set_cons_succ]
    refine Segs.WL.not (some 27) rfl (by kernel_rfl) ?_
    simp only [Act.put, List.setIfInBounds_toArray, List.set_cons_zero, List.set_cons_succ]
    refine Segs.WL.not (some 28) rfl (by kernel_rfl) ?_
    simp only [Act.put, List.setIfInBounds_toArray, List.set_cons_zero, List.set_cons_succ]
    refine Segs.WL.not (some 29) rfl (by kernel_rfl) ?_
    simp only [Act.put, List.setIfInBounds_toArray, List.set_cons_zero, List.set_cons_succ]
    refine Segs.WL.val (some 30) (.bool true) W11 rfl (by kernel_rfl) (by kernel_rfl) ?_
    simp only [Act.put, List.setIfInBounds_toArray, List.set_cons_zero, List.set_cons_succ]
    refine Segs.WL.val (some 31) (.bool true) W11 rfl (by kernel_rfl) (by kernel_rfl) ?_
    simp only [Act.put, List.setIfInBounds_toArray, List.set_cons_zero, List.set_cons_succ]
    refine Segs.WL.not (some 32) rfl (by kernel_rfl) ?_
    simp only [Act.put, List.setIfInBounds_toArray, List.set_cons_zero, List.set_cons_succ]
    refine Segs.WL.not (some 33) rfl (by kernel_rfl) ?_
    simp only [Act.put, List.setIfInBounds_toArray, List.set_cons_zero, List.set_cons_succ]
    refine Segs.WL.not (some 34) rfl (by kernel_rfl) ?_
    simp only [Act.put, List.setIfInBounds_toArray, List.set_cons_zero, List.set_cons_succ]
    refine Segs.WL.val (some 35) (.bool true) W11 rfl (by kernel_rfl) (by kernel_rfl) ?_
    simp only [Act.put, List.setIfInBounds_toArray, List.set_cons_zero, List.set_cons_succ]
    refine Segs.WL.val (some 36) (.bool true) W11 rfl (by kernel_rfl) (by kernel_rfl) ?_
    simp only [Act.put, List.setIfInBounds_toArray, List.set_cons_zero, List.set_cons_succ]
    refine Segs.WL.not (some 37) rfl (by kernel_rfl) ?_
    simp only [Act.put, List.setIfInBounds_toArray, List.set_cons_zero, List.set_cons_succ]
    refine Segs.WL.not (some 38) rfl (by kernel_rfl) ?_
    simp only [Act.put, List.setIfInBounds_toArray, List.set_cons_zero, List.set_cons_succ]
    refine Segs.WL.not (some 39) rfl (by kernel_rfl) ?_
    simp only [Act.put, List.setIfInBounds_toArray, List.set_cons_zero, List.set_cons_succ]
    refine Segs.WL.val (some 40) (.bool true) W11 rfl (by kernel_rfl) (by kernel_rfl) ?_
    simp only [Act.put, List.setIfInBounds_toArray, List.set_cons_zero, List.set_cons_succ]
    refine Segs.WL.val (some 41) (.bool true) W11 rfl (by kernel_rfl) (by kernel_rfl) ?_
    simp only [Act.put, List.setIfInBounds_toArray, List.set_cons_zero, List.set_cons_succ]
    refine Segs.WL.not (some 42) rfl (by kernel_rfl) ?_
    simp only [Act.put, List.setIfInBounds_toArray, List.set_cons_zero, List.set_cons_succ]
    refine Segs.WL.not (some 43) rfl (by kernel_rfl) ?_
    simp only [Act.put, List.setIfInBounds_toArray, List.set_cons_zero, List.set_cons_succ]
    refine Segs.WL.not (some 44) rfl (by kernel_rfl) ?_
    simp only [Act.put, List.setIfInBounds_toArray, List.set_cons_zero, List.set_cons_succ]
    refine Segs.WL.val (some 45) (.bool true) W11 rfl (by kernel_rfl) (by kernel_rfl) ?_
    simp only [Act.put, List.setIfInBounds_toArray, List.set_cons_zero, List.set_cons_succ]
    refine Segs.WL.nil ?_
    go_wp2_with fail
    go_ret
    exact ⟨rfl, B14.out.1⟩
  rw [hfn] at fewn
  have FEWN := Lib.hid fewn
  rcases hfm : fewB a1 with _ | _
  · rw [hfm] at fewm
    have FEWM := Lib.hid fewm
    clear hl fewn fewm hCS hCM hZ0 hfn w0 w1 h16 g16 vn vm putn putm hk hk' w2 hp hfm
    have B0 := Lib.hid (Bl.start w)
    have K1 := Lib.hid (by have := Blk.new (w) 25 CS; simpa using this : Blk ((w).alloc (.cells CS 25)) w.heap.size 25 CS)
    have B2 := Lib.hid (B0.out.alloc (.cells CS 25))
    have K3 := Lib.hid (K1.out.alloc (.cells CM 25))
    have K4 := Lib.hid (by have := Blk.new (w.alloc (.cells CS 25)) 25 CM; simpa using this : Blk ((w.alloc (.cells CS 25)).alloc (.cells CM 25)) (w.heap.size + 1) 25 CM)
    have B5 := Lib.hid (B2.out.alloc (.cells CM 25))
    go_enter Tryd.func7, Tryd.ntmps7
    go_upto_region 1 with (fail)
    generalize (w.alloc (.cells CS 25)).alloc (.cells CM 25) = W6 at K3 K4 B5 ⊢
    refine wp_region_lit (Segs.WL.out ?_)
    refine Segs.WL.call (some 15) 8 #[] _ rfl (by kernel_rfl) (by kernel_rfl) (WK.out W6 (LA.out _ B5.out.1)) (fun e W7 hR => ?_)
    obtain ⟨rfl, hb⟩ := hR
    refine ⟨_, rfl, ?_⟩
    simp only [Act.put, List.setIfInBounds_toArray, List.set_cons_zero, List.set_cons_succ]
    have K8 := Lib.hid (K3.out.below hb)
    have K9 := Lib.hid (K4.out.below hb)
    have B10 := Lib.hid (B5.out.call hb)
    clear hb
    refine Segs.WL.val (some 7) (.bool true) W7 rfl (by kernel_rfl) (by kernel_rfl) ?_
    simp only [Act.put, List.setIfInBounds_toArray, List.set_cons_zero, List.set_cons_succ]
    refine Segs.WL.nil ?_
    go_upto_region 2 with (fail)
    refine wp_region_lit (Segs.WL.out ?_)
    refine Segs.WL.val (some 16) (.bool true) W7 rfl (by kernel_rfl) (by kernel_rfl) ?_
    simp only [Act.put, List.setIfInBounds_toArray, List.set_cons_zero, List.set_cons_succ]
    refine Segs.WL.val (some 17) (.bool false) W7 rfl (by kernel_rfl) (by kernel_rfl) ?_
    simp only [Act.put, List.setIfInBounds_toArray, List.set_cons_zero, List.set_cons_succ]
    refine Segs.WL.nil ?_
    go_upto_region 4 with (fail)
    refine wp_region_lit (Segs.WL.out ?_)
    refine Segs.WL.val (some 18) (.agg CS) W7 rfl (by kernel_rfl) (Segs.run_row 25 (.tmp 3) rfl w.heap.size (by kernel_rfl) 25 CS _ K8.out Tryd.underlying25 rfl (info19 (NCS.out.size))) ?_
    simp only [Act.put, List.setIfInBounds_toArray, List.set_cons_zero, List.set_cons_succ]
    refine Segs.WL.call (some 19) 9 #[.agg CS] _ rfl (by kernel_rfl) (by kernel_rfl) (FEWN.out W7) (fun e W11 hR => ?_)
    obtain ⟨rfl, hb⟩ := hR
    refine ⟨_, rfl, ?_⟩
    simp only [Act.put, List.setIfInBounds_toArray, List.set_cons_zero, List.set_cons_succ]
    have K12 := Lib.hid (K8.out.below hb)
    have K13 := Lib.hid (K9.out.below hb)
    have B14 := Lib.hid (B10.out.call hb)
    clear hb
    refine Segs.WL.val (some 20) (.bool true) W11 rfl (by kernel_rfl) (by kernel_rfl) ?_
    simp only [Act.put, List.setIfInBounds_toArray, List.set_cons_zero, List.set_cons_succ]
    refine Segs.WL.val (some 21) (.agg CM) W11 rfl (by kernel_rfl) (Segs.run_row 25 (.tmp 4) rfl (w.heap.size + 1) (by kernel_rfl) 25 CM _ K13.out Tryd.underlying25 rfl (info19 (NCM.out.size))) ?_
    simp only [Act.put, List.setIfInBounds_toArray, List.set_cons_zero, List.set_cons_succ]
    refine Segs.WL.call (some 22) 9 #[.agg CM] _ rfl (by kernel_rfl) (by kernel_rfl) (FEWM.out W11) (fun e W15 hR => ?_)
    obtain ⟨rfl, hb⟩ := hR
    refine ⟨_, rfl, ?_⟩
    simp only [Act.put, List.setIfInBounds_toArray, List.set_cons_zero, List.set_cons_succ]
    have K16 := Lib.hid (K12.out.below hb)
    have K17 := Lib.hid (K13.out.below hb)
    have B18 := Lib.hid (B14.out.call hb)
    clear hb
    refine Segs.WL.val (some 23) (.bool false) W15 rfl (by kernel_rfl) (by kernel_rfl) ?_
    simp only [Act.put, List.setIfInBounds_toArray, List.set_cons_zero, List.set_cons_succ]
    refine Segs.WL.val (some 8) (.bool false) W15 rfl (by kernel_rfl) (by kernel_rfl) ?_
    simp only [Act.put, List.setIfInBounds_toArray, List.set_cons_zero, List.set_cons_succ]
    refine Segs.WL.nil ?_
    go_upto_region 5 with (fail)
    refine wp_region_lit (Segs.WL.out ?_)
    refine Segs.WL.val (some 24) (.bool false) W15 rfl (by kernel_rfl) (by kernel_rfl) ?_
    simp only [Act.put, List.setIfInBounds_toArray, List.set_cons_zero, List.set_cons_succ]
    refine Segs.WL.val (some 25) (.bool true) W15 rfl (by kernel_rfl) (by kernel_rfl) ?_
    simp only [Act.put, List.setIfInBounds_toArray, List.set_cons_zero, List.set_cons_succ]
    refine Segs.WL.val (some 26) (.bool true) W15 rfl (by kernel_rfl) (by kernel_rfl) ?_
    simp only [Act.put, List.setIfInBounds_toArray, List.set_cons_zero, List.set_cons_succ]
    refine Segs.WL.not (some 27) rfl (by kernel_rfl) ?_
    simp only [Act.put, List.setIfInBounds_toArray, List.set_cons_zero, List.set_cons_succ]
    refine Segs.WL.not (some 28) rfl (by kernel_rfl) ?_
    simp only [Act.put, List.setIfInBounds_toArray, List.set_cons_zero, List.set_cons_succ]
    refine Segs.WL.not (some 29) rfl (by kernel_rfl) ?_
    simp only [Act.put, List.setIfInBounds_toArray, List.set_cons_zero, List.set_cons_succ]
    refine Segs.WL.val (some 30) (.bool true) W15 rfl (by kernel_rfl) (by kernel_rfl) ?_
    simp only [Act.put, List.setIfInBounds_toArray, List.set_cons_zero, List.set_cons_succ]
    refine Segs.WL.val (some 31) (.bool true) W15 rfl (by kernel_rfl) (by kernel_rfl) ?_
    simp only [Act.put, List.setIfInBounds_toArray, List.set_cons_zero, List.set_cons_succ]
    refine Segs.WL.not (some 32) rfl (by kernel_rfl) ?_
    simp only [Act.put, List.setIfInBounds_toArray, List.set_cons_zero, List.set_cons_succ]
    refine Segs.WL.not (some 33) rfl (by kernel_rfl) ?_
    simp only [Act.put, List.setIfInBounds_toArray, List.set_cons_zero, List.set_cons_succ]
    refine Segs.WL.not (some 34) rfl (by kernel_rfl) ?_
    simp only [Act.put, List.setIfInBounds_toArray, List.set_cons_zero, List.set_cons_succ]
    refine Segs.WL.val (some 35) (.bool true) W15 rfl (by kernel_rfl) (by kernel_rfl) ?_
    simp only [Act.put, List.setIfInBounds_toArray, List.set_cons_zero, List.set_cons_succ]
    refine Segs.WL.val (some 36) (.bool true) W15 rfl (by kernel_rfl) (by kernel_rfl) ?_
    simp only [Act.put, List.setIfInBounds_toArray, List.set_cons_zero, List.set_cons_succ]
    refine Segs.WL.not (some 37) rfl (by kernel_rfl) ?_
    simp only [Act.put, List.setIfInBounds_toArray, List.set_cons_zero, List.set_cons_succ]
    refine Segs.WL.not (some 38) rfl (by kernel_rfl) ?_
    simp only [Act.put, List.setIfInBounds_toArray, List.set_cons_zero, List.set_cons_succ]
    refine Segs.WL.not (some 39) rfl (by kernel_rfl) ?_
    simp only [Act.put, List.setIfInBounds_toArray, List.set_cons_zero, List.set_cons_succ]
    refine Segs.WL.val (some 40) (.bool true) W15 rfl (by kernel_rfl) (by kernel_rfl) ?_
    simp only [Act.put, List.setIfInBounds_toArray, List.set_cons_zero, List.set_cons_succ]
    refine Segs.WL.val (some 41) (.bool true) W15 rfl (by kernel_rfl) (by kernel_rfl) ?_
    simp only [Act.put, List.setIfInBounds_toArray, List.set_cons_zero, List.set_cons_succ]
    refine Segs.WL.not (some 42) rfl (by kernel_rfl) ?_
    simp only [Act.put, List.setIfInBounds_toArray, List.set_cons_zero, List.set_cons_succ]
    refine Segs.WL.not (some 43) rfl (by kernel_rfl) ?_
    simp only [Act.put, List.setIfInBounds_toArray, List.set_cons_zero, List.set_cons_succ]
    refine Segs.WL.not (some 44) rfl (by kernel_rfl) ?_
    simp only [Act.put, List.setIfInBounds_toArray, List.set_cons_zero, List.set_cons_succ]
    refine Segs.WL.val (some 45) (.bool true) W15 rfl (by kernel_rfl) (by kernel_rfl) ?_
    simp only [Act.put, List.setIfInBounds_toArray, List.set_cons_zero, List.set_cons_succ]
    refine Segs.WL.nil ?_
    go_wp2_with fail
    go_ret
    exact ⟨rfl, B18.out.1⟩
  rw [hfm] at fewm
  have FEWM := Lib.hid fewm
  by_cases hk00 : k0 = 3
  rotate_left
  · have DK0 := Lib.hid (show (!decide (k0 = 3)) = true by rw [decide_eq_false hk00]; rfl)
    clear hl fewn fewm hCS hCM hZ0 hfn w0 w1 h16 g16 vn vm putn putm hk hk' w2 hp hfm hk00
    have B0 := Lib.hid (Bl.start w)
    have K1 := Lib.hid (by have := Blk.new (w) 25 CS; simpa using this : Blk ((w).alloc (.cells CS 25)) w.heap.size 25 CS)
    have B2 := Lib.hid (B0.out.alloc (.cells CS 25))
    have K3 := Lib.hid (K1.out.alloc (.cells CM 25))
    have K4 := Lib.hid (by have := Blk.new (w.alloc (.cells CS 25)) 25 CM; simpa using this : Blk ((w.alloc (.cells CS 25)).alloc (.cells CM 25)) (w.heap.size + 1) 25 CM)
    have B5 := Lib.hid (B2.out.alloc (.cells CM 25))
    go_enter Tryd.func7, Tryd.ntmps7
    go_upto_region 1 with (fail)
    generalize (w.alloc (.cells CS 25)).alloc (.cells CM 25) = W6 at K3 K4 B5 ⊢
    refine wp_region_lit (Segs.WL.out ?_)
    refine Segs.WL.call (some 15) 8 #[] _ rfl (by kernel_rfl) (by kernel_rfl) (WK.out W6 (LA.out _ B5.out.1)) (fun e W7 hR => ?_)
    obtain ⟨rfl, hb⟩ := hR
    refine ⟨_, rfl, ?_⟩
    simp only [Act.put, List.setIfInBounds_toArray, List.set_cons_zero, List.set_cons_succ]
    have K8 := Lib.hid (K3.out.below hb)
    have K9 := Lib.hid (K4.out.below hb)
    have B10 := Lib.hid (B5.out.call hb)
    clear hb
    refine Segs.WL.val (some 7) (.bool true) W7 rfl (by kernel_rfl) (by kernel_rfl) ?_
    simp only [Act.put, List.setIfInBounds_toArray, List.set_cons_zero, List.set_cons_succ]
    refine Segs.WL.nil ?_
    go_upto_region 2 with (fail)
    refine wp_region_lit (Segs.WL.out ?_)
    refine Segs.WL.val (some 16) (.bool true) W7 rfl (by kernel_rfl) (by kernel_rfl) ?_
    simp only [Act.put, List.setIfInBounds_toArray, List.set_cons_zero, List.set_cons_succ]
    refine Segs.WL.val (some 17) (.bool false) W7 rfl (by kernel_rfl) (by kernel_rfl) ?_
    simp only [Act.put, List.setIfInBounds_toArray, List.set_cons_zero, List.set_cons_succ]
    refine Segs.WL.nil ?_
    go_upto_region 4 with (fail)
    refine wp_region_lit (Segs.WL.out ?_)
    refine Segs.WL.val (some 18) (.agg CS) W7 rfl (by kernel_rfl) (Segs.run_row 25 (.tmp 3) rfl w.heap.size (by kernel_rfl) 25 CS _ K8.out Tryd.underlying25 rfl (info19 (NCS.out.size))) ?_
    simp only [Act.put, List.setIfInBounds_toArray, List.set_cons_zero, List.set_cons_succ]
    refine Segs.WL.call (some 19) 9 #[.agg CS] _ rfl (by kernel_rfl) (by kernel_rfl) (FEWN.out W7) (fun e W11 hR => ?_)
    obtain ⟨rfl, hb⟩ := hR
    refine ⟨_, rfl, ?_⟩
    simp only [Act.put, List.setIfInBounds_toArray, List.set_cons_zero, List.set_cons_succ]
    have K12 := Lib.hid (K8.out.below hb)
    have K13 := Lib.hid (K9.out.below hb)
    have B14 := Lib.hid (B10.out.call hb)
    clear hb
    refine Segs.WL.val (some 20) (.bool true) W11 rfl (by kernel_rfl) (by kernel_rfl) ?_
    simp only [Act.put, List.setIfInBounds_toArray, List.set_cons_zero, List.set_cons_succ]
    refine Segs.WL.val (some 21) (.agg CM) W11 rfl (by kernel_rfl) (Segs.run_row 25 (.tmp 4) rfl (w.heap.size + 1) (by kernel_rfl) 25 CM _ K13.out Tryd.underlying25 rfl (info19 (NCM.out.size))) ?_
    simp only [Act.put, List.setIfInBounds_toArray, List.set_cons_zero, List.set_cons_succ]
    refine Segs.WL.call (some 22) 9 #[.agg CM] _ rfl (by kernel_rfl) (by kernel_rfl) (FEWM.out W11) (fun e W15 hR => ?_)
    obtain ⟨rfl, hb⟩ := hR
    refine ⟨_, rfl, ?_⟩
    simp only [Act.put, List.setIfInBounds_toArray, List.set_cons_zero, List.set_cons_succ]
    have K16 := Lib.hid (K12.out.below hb)
    have K17 := Lib.hid (K13.out.below hb)
    have B18 := Lib.hid (B14.out.call hb)
    clear hb
    refine Segs.WL.val (some 23) (.bool true) W15 rfl (by kernel_rfl) (by kernel_rfl) ?_
    simp only [Act.put, List.setIfInBounds_toArray, List.set_cons_zero, List.set_cons_succ]
    refine Segs.WL.val (some 8) (.bool true) W15 rfl (by kernel_rfl) (by kernel_rfl) ?_
    simp only [Act.put, List.setIfInBounds_toArray, List.set_cons_zero, List.set_cons_succ]
    refine Segs.WL.nil ?_
    go_upto_region 5 with (fail)
    refine wp_region_lit (Segs.WL.out ?_)
    refine Segs.WL.val (some 24) (.bool true) W15 rfl (by kernel_rfl) (by kernel_rfl) ?_
    simp only [Act.put, List.setIfInBounds_toArray, List.set_cons_zero, List.set_cons_succ]
    refine Segs.WL.val (some 25) (.bool false) W15 rfl (by kernel_rfl) (by kernel_rfl) ?_
    simp only [Act.put, List.setIfInBounds_toArray, List.set_cons_zero, List.set_cons_succ]
    refine Segs.WL.val (some 26) (.bool false) W15 rfl (by kernel_rfl) (by kernel_rfl) ?_
    simp only [Act.put, List.setIfInBounds_toArray, List.set_cons_zero, List.set_cons_succ]
    refine Segs.WL.val (some 27) (.pointer (some ⟨w.heap.size, 0, none⟩)) W15 rfl (by kernel_rfl) (by kernel_rfl) ?_
    simp only [Act.put, List.setIfInBounds_toArray, List.set_cons_zero, List.set_cons_succ]
    refine Segs.WL.val (some 28) (.int .i64 k0) W15 rfl (by kernel_rfl) (Segs.run_cell 22 (.tmp 27) rfl w.heap.size 0 (by kernel_rfl) _ (isAggKind _) (by rw [K16.out.cell]; exact HK0.out)) ?_
    simp only [Act.put, List.setIfInBounds_toArray, List.set_cons_zero, List.set_cons_succ]
    refine Segs.WL.val (some 29) (.bool (!decide (k0 = 3))) W15 rfl (by kernel_rfl) (by kernel_rfl) ?_
    simp only [Act.put, List.setIfInBounds_toArray, List.set_cons_zero, List.set_cons_succ]
    rw [DK0.out]
    refine Segs.WL.val (some 30) (.bool true) W15 rfl (by kernel_rfl) (by kernel_rfl) ?_
    simp only [Act.put, List.setIfInBounds_toArray, List.set_cons_zero, List.set_cons_succ]
    refine Segs.WL.val (some 31) (.bool true) W15 rfl (by kernel_rfl) (by kernel_rfl) ?_
    simp only [Act.put, List.setIfInBounds_toArray, List.set_cons_zero, List.set_cons_succ]
    refine Segs.WL.not (some 32) rfl (by kernel_rfl) ?_
    simp only [Act.put, List.setIfInBounds_toArray, List.set_cons_zero, List.set_cons_succ]
    refine Segs.WL.not (some 33) rfl (by kernel_rfl) ?_
    simp only [Act.put, List.setIfInBounds_toArray, List.set_cons_zero, List.set_cons_succ]
    refine Segs.WL.not (some 34) rfl (by kernel_rfl) ?_
    simp only [Act.put, List.setIfInBounds_toArray, List.set_cons_zero, List.set_cons_succ]
    refine Segs.WL.val (some 35) (.bool true) W15 rfl (by kernel_rfl) (by kernel_rfl) ?_
    simp only [Act.put, List.setIfInBounds_toArray, List.set_cons_zero, List.set_cons_succ]
    refine Segs.WL.val (some 36) (.bool true) W15 rfl (by kernel_rfl) (by kernel_rfl) ?_
    simp only [Act.put, List.setIfInBounds_toArray, List.set_cons_zero, List.set_cons_succ]
    refine Segs.WL.not (some 37) rfl (by kernel_rfl) ?_
    simp only [Act.put, List.setIfInBounds_toArray, List.set_cons_zero, List.set_cons_succ]
    refine Segs.WL.not (some 38) rfl (by kernel_rfl) ?_
    simp only [Act.put, List.setIfInBounds_toArray, List.set_cons_zero, List.set_cons_succ]
    refine Segs.WL.not (some 39) rfl (by kernel_rfl) ?_
    simp only [Act.put, List.setIfInBounds_toArray, List.set_cons_zero, List.set_cons_succ]
    refine Segs.WL.val (some 40) (.bool true) W15 rfl (by kernel_rfl) (by kernel_rfl) ?_
    simp only [Act.put, List.setIfInBounds_toArray, List.set_cons_zero, List.set_cons_succ]
    refine Segs.WL.val (some 41) (.bool true) W15 rfl (by kernel_rfl) (by kernel_rfl) ?_
    simp only [Act.put, List.setIfInBounds_toArray, List.set_cons_zero, List.set_cons_succ]
    refine Segs.WL.not (some 42) rfl (by kernel_rfl) ?_
    simp only [Act.put, List.setIfInBounds_toArray, List.set_cons_zero, List.set_cons_succ]
    refine Segs.WL.not (some 43) rfl (by kernel_rfl) ?_
    simp only [Act.put, List.setIfInBounds_toArray, List.set_cons_zero, List.set_cons_succ]
    refine Segs.WL.not (some 44) rfl (by kernel_rfl) ?_
    simp only [Act.put, List.setIfInBounds_toArray, List.set_cons_zero, List.set_cons_succ]
    refine Segs.WL.val (some 45) (.bool true) W15 rfl (by kernel_rfl) (by kernel_rfl) ?_
    simp only [Act.put, List.setIfInBounds_toArray, List.set_cons_zero, List.set_cons_succ]
    refine Segs.WL.nil ?_
    go_wp2_with fail
    go_ret
    exact ⟨rfl, B18.out.1⟩
  have DK0 := Lib.hid (show (!decide (k0 = 3)) = false by rw [decide_eq_true hk00]; rfl)
  by_cases hk10 : k1 = 0
  · have DK1 := Lib.hid (show decide (k1 = 0) = true from decide_eq_true hk10)
    clear hl fewn fewm hCS hCM hZ0 hfn w0 w1 h16 g16 vn vm putn putm hk hk' w2 hp hfm hk00 hk10
    have B0 := Lib.hid (Bl.start w)
    have K1 := Lib.hid (by have := Blk.new (w) 25 CS; simpa using this : Blk ((w).alloc (.cells CS 25)) w.heap.size 25 CS)
    have B2 := Lib.hid (B0.out.alloc (.cells CS 25))
    have K3 := Lib.hid (K1.out.alloc (.cells CM 25))
    have K4 := Lib.hid (by have := Blk.new (w.alloc (.cells CS 25)) 25 CM; simpa using this : Blk ((w.alloc (.cells CS 25)).alloc (.cells CM 25)) (w.heap.size + 1) 25 CM)
    have B5 := Lib.hid (B2.out.alloc (.cells CM 25))
    go_enter Tryd.func7, Tryd.ntmps7
    go_upto_region 1 with (fail)
    generalize (w.alloc (.cells CS 25)).alloc (.cells CM 25) = W6 at K3 K4 B5 ⊢
    refine wp_region_lit (Segs.WL.out ?_)
    refine Segs.WL.call (some 15) 8 #[] _ rfl (by kernel_rfl) (by kernel_rfl) (WK.out W6 (LA.out _ B5.out.1)) (fun e W7 hR => ?_)
    obtain ⟨rfl, hb⟩ := hR
    refine ⟨_, rfl, ?_⟩
    simp only [Act.put, List.setIfInBounds_toArray, List.set_cons_zero, List.set_cons_succ]
    have K8 := Lib.hid (K3.out.below hb)
    have K9 := Lib.hid (K4.out.below hb)
    have B10 := Lib.hid (B5.out.call hb)
    clear hb
    refine Segs.WL.val (some 7) (.bool true) W7 rfl (by kernel_rfl) (by kernel_rfl) ?_
    simp only [Act.put, List.setIfInBounds_toArray, List.set_cons_zero, List.set_cons_succ]
    refine Segs.WL.nil ?_
    go_upto_region 2 with (fail)
    refine wp_region_lit (Segs.WL.out ?_)
    refine Segs.WL.val (some 16) (.bool true) W7 rfl (by kernel_rfl) (by kernel_rfl) ?_
    simp only [Act.put, List.setIfInBounds_toArray, List.set_cons_zero, List.set_cons_succ]
    refine Segs.WL.val (some 17) (.bool false) W7 rfl (by kernel_rfl) (by kernel_rfl) ?_
    simp only [Act.put, List.setIfInBounds_toArray, List.set_cons_zero, List.set_cons_succ]
    refine Segs.WL.nil ?_
    go_upto_region 4 with (fail)
    refine wp_region_lit (Segs.WL.out ?_)
    refine Segs.WL.val (some 18) (.agg CS) W7 rfl (by kernel_rfl) (Segs.run_row 25 (.tmp 3) rfl w.heap.size (by kernel_rfl) 25 CS _ K8.out Tryd.underlying25 rfl (info19 (NCS.out.size))) ?_
    simp only [Act.put, List.setIfInBounds_toArray, List.set_cons_zero, List.set_cons_succ]
    refine Segs.WL.call (some 19) 9 #[.agg CS] _ rfl (by kernel_rfl) (by kernel_rfl) (FEWN.out W7) (fun e W11 hR => ?_)
    obtain ⟨rfl, hb⟩ := hR
    refine ⟨_, rfl, ?_⟩
    simp only [Act.put, List.setIfInBounds_toArray, List.set_cons_zero, List.set_cons_succ]
    have K12 := Lib.hid (K8.out.below hb)
    have K13 := Lib.hid (K9.out.below hb)
    have B14 := Lib.hid (B10.out.call hb)
    clear hb
    refine Segs.WL.val (some 20) (.bool true) W11 rfl (by kernel_rfl) (by kernel_rfl) ?_
    simp only [Act.put, List.setIfInBounds_toArray, List.set_cons_zero, List.set_cons_succ]
    refine Segs.WL.val (some 21) (.agg CM) W11 rfl (by kernel_rfl) (Segs.run_row 25 (.tmp 4) rfl (w.heap.size + 1) (by kernel_rfl) 25 CM _ K13.out Tryd.underlying25 rfl (info19 (NCM.out.size))) ?_
    simp only [Act.put, List.setIfInBounds_toArray, List.set_cons_zero, List.set_cons_succ]
    refine Segs.WL.call (some 22) 9 #[.agg CM] _ rfl (by kernel_rfl) (by kernel_rfl) (FEWM.out W11) (fun e W15 hR => ?_)
    obtain ⟨rfl, hb⟩ := hR
    refine ⟨_, rfl, ?_⟩
    simp only [Act.put, List.setIfInBounds_toArray, List.set_cons_zero, List.set_cons_succ]
    have K16 := Lib.hid (K12.out.below hb)
    have K17 := Lib.hid (K13.out.below hb)
    have B18 := Lib.hid (B14.out.call hb)
    clear hb
    refine Segs.WL.val (some 23) (.bool true) W15 rfl (by kernel_rfl) (by kernel_rfl) ?_
    simp only [Act.put, List.setIfInBounds_toArray, List.set_cons_zero, List.set_cons_succ]
    refine Segs.WL.val (some 8) (.bool true) W15 rfl (by kernel_rfl) (by kernel_rfl) ?_
    simp only [Act.put, List.setIfInBounds_toArray, List.set_cons_zero, List.set_cons_succ]
    refine Segs.WL.nil ?_
    go_upto_region 5 with (fail)
    refine wp_region_lit (Segs.WL.out ?_)
    refine Segs.WL.val (some 24) (.bool true) W15 rfl (by kernel_rfl) (by kernel_rfl) ?_
    simp only [Act.put, List.setIfInBounds_toArray, List.set_cons_zero, List.set_cons_succ]
    refine Segs.WL.val (some 25) (.bool false) W15 rfl (by kernel_rfl) (by kernel_rfl) ?_
    simp only [Act.put, List.setIfInBounds_toArray, List.set_cons_zero, List.set_cons_succ]
    refine Segs.WL.val (some 26) (.bool false) W15 rfl (by kernel_rfl) (by kernel_rfl) ?_
    simp only [Act.put, List.setIfInBounds_toArray, List.set_cons_zero, List.set_cons_succ]
    refine Segs.WL.val (some 27) (.pointer (some ⟨w.heap.size, 0, none⟩)) W15 rfl (by kernel_rfl) (by kernel_rfl) ?_
    simp only [Act.put, List.setIfInBounds_toArray, List.set_cons_zero, List.set_cons_succ]
    refine Segs.WL.val (some 28) (.int .i64 k0) W15 rfl (by kernel_rfl) (Segs.run_cell 22 (.tmp 27) rfl w.heap.size 0 (by kernel_rfl) _ (isAggKind _) (by rw [K16.out.cell]; exact HK0.out)) ?_
    simp only [Act.put, List.setIfInBounds_toArray, List.set_cons_zero, List.set_cons_succ]
    refine Segs.WL.val (some 29) (.bool (!decide (k0 = 3))) W15 rfl (by kernel_rfl) (by kernel_rfl) ?_
    simp only [Act.put, List.setIfInBounds_toArray, List.set_cons_zero, List.set_cons_succ]
    rw [DK0.out]
    refine Segs.WL.val (some 30) (.bool false) W15 rfl (by kernel_rfl) (by kernel_rfl) ?_
    simp only [Act.put, List.setIfInBounds_toArray, List.set_cons_zero, List.set_cons_succ]
    refine Segs.WL.val (some 31) (.bool false) W15 rfl (by kernel_rfl) (by kernel_rfl) ?_
    simp only [Act.put, List.setIfInBounds_toArray, List.set_cons_zero, List.set_cons_succ]
    refine Segs.WL.val (some 32) (.pointer (some ⟨(w.heap.size + 1), 0, none⟩)) W15 rfl (by kernel_rfl) (by kernel_rfl) ?_
    simp only [Act.put, List.setIfInBounds_toArray, List.set_cons_zero, List.set_cons_succ]
    refine Segs.WL.val (some 33) (.int .i64 k1) W15 rfl (by kernel_rfl) (Segs.run_cell 22 (.tmp 32) rfl (w.heap.size + 1) 0 (by kernel_rfl) _ (isAggKind _) (by rw [K17.out.cell]; exact HK1.out)) ?_
    simp only [Act.put, List.setIfInBounds_toArray, List.set_cons_zero, List.set_cons_succ]
    refine Segs.WL.val (some 34) (.bool (decide (k1 = 0))) W15 rfl (by kernel_rfl) (by kernel_rfl) ?_
    simp only [Act.put, List.setIfInBounds_toArray, List.set_cons_zero, List.set_cons_succ]
    rw [DK1.out]
    refine Segs.WL.val (some 35) (.bool true) W15 rfl (by kernel_rfl) (by kernel_rfl) ?_
    simp only [Act.put, List.setIfInBounds_toArray, List.set_cons_zero, List.set_cons_succ]
    refine Segs.WL.val (some 36) (.bool true) W15 rfl (by kernel_rfl) (by kernel_rfl) ?_
    simp only [Act.put, List.setIfInBounds_toArray, List.set_cons_zero, List.set_cons_succ]
    refine Segs.WL.not (some 37) rfl (by kernel_rfl) ?_
    simp only [Act.put, List.setIfInBounds_toArray, List.set_cons_zero, List.set_cons_succ]
    refine Segs.WL.not (some 38) rfl (by kernel_rfl) ?_
    simp only [Act.put, List.setIfInBounds_toArray, List.set_cons_zero, List.set_cons_succ]
    refine Segs.WL.not (some 39) rfl (by kernel_rfl) ?_
    simp only [Act.put, List.setIfInBounds_toArray, List.set_cons_zero, List.set_cons_succ]
    refine Segs.WL.val (some 40) (.bool true) W15 rfl (by kernel_rfl) (by kernel_rfl) ?_
    simp only [Act.put, List.setIfInBounds_toArray, List.set_cons_zero, List.set_cons_succ]
    refine Segs.WL.val (some 41) (.bool true) W15 rfl (by kernel_rfl) (by kernel_rfl) ?_
    simp only [Act.put, List.setIfInBounds_toArray, List.set_cons_zero, List.set_cons_succ]
    refine Segs.WL.not (some 42) rfl (by kernel_rfl) ?_
    simp only [Act.put, List.setIfInBounds_toArray, List.set_cons_zero, List.set_cons_succ]
    refine Segs.WL.not (some 43) rfl (by kernel_rfl) ?_
    simp only [Act.put, List.setIfInBounds_toArray, List.set_cons_zero, List.set_cons_succ]
    refine Segs.WL.not (some 44) rfl (by kernel_rfl) ?_
    simp only [Act.put, List.setIfInBounds_toArray, List.set_cons_zero, List.set_cons_succ]
    refine Segs.WL.val (some 45) (.bool true) W15 rfl (by kernel_rfl) (by kernel_rfl) ?_
    simp only [Act.put, List.setIfInBounds_toArray, List.set_cons_zero, List.set_cons_succ]
    refine Segs.WL.nil ?_
    go_wp2_with fail
    go_ret
    exact ⟨rfl, B18.out.1⟩
  have DK1 := Lib.hid (show decide (k1 = 0) = false from decide_eq_false hk10)
  rcases hvn : validB a0 with _ | _
  · rw [hvn] at vn
    have VN := Lib.hid vn
    clear hl fewn fewm hCS hCM hZ0 hfn w0 w1 h16 g16 vn vm putn putm hk hk' w2 hp hfm hk00 hk10 hvn
    have B0 := Lib.hid (Bl.start w)
    have K1 := Lib.hid (by have := Blk.new (w) 25 CS; simpa using this : Blk ((w).alloc (.cells CS 25)) w.heap.size 25 CS)
    have B2 := Lib.hid (B0.out.alloc (.cells CS 25))
    have K3 := Lib.hid (K1.out.alloc (.cells CM 25))
    have K4 := Lib.hid (by have := Blk.new (w.alloc (.cells CS 25)) 25 CM; simpa using this : Blk ((w.alloc (.cells CS 25)).alloc (.cells CM 25)) (w.heap.size + 1) 25 CM)
    have B5 := Lib.hid (B2.out.alloc (.cells CM 25))
    go_enter Tryd.func7, Tryd.ntmps7
    go_upto_region 1 with (fail)
    generalize (w.alloc (.cells CS 25)).alloc (.cells CM 25) = W6 at K3 K4 B5 ⊢
    refine wp_region_lit (Segs.WL.out ?_)
    refine Segs.WL.call (some 15) 8 #[] _ rfl (by kernel_rfl) (by kernel_rfl) (WK.out W6 (LA.out _ B5.out.1)) (fun e W7 hR => ?_)
    obtain ⟨rfl, hb⟩ := hR
    refine ⟨_, rfl, ?_⟩
    simp only [Act.put, List.setIfInBounds_toArray, List.set_cons_zero, List.set_cons_succ]
    have K8 := Lib.hid (K3.out.below hb)
    have K9 := Lib.hid (K4.out.below hb)
    have B10 := Lib.hid (B5.out.call hb)
    clear hb
    refine Segs.WL.val (some 7) (.bool true) W7 rfl (by kernel_rfl) (by kernel_rfl) ?_
    simp only [Act.put, List.setIfInBounds_toArray, List.set_cons_zero, List.set_cons_succ]
    refine Segs.WL.nil ?_
    go_upto_region 2 with (fail)
    refine wp_region_lit (Segs.WL.out ?_)
    refine Segs.WL.val (some 16) (.bool true) W7 rfl (by kernel_rfl) (by kernel_rfl) ?_
    simp only [Act.put, List.setIfInBounds_toArray, List.set_cons_zero, List.set_cons_succ]
    refine Segs.WL.val (some 17) (.bool false) W7 rfl (by kernel_rfl) (by kernel_rfl) ?_
    simp only [Act.put, List.setIfInBounds_toArray, List.set_cons_zero, List.set_cons_succ]
    refine Segs.WL.nil ?_
    go_upto_region 4 with (fail)
    refine wp_region_lit (Segs.WL.out ?_)
    refine Segs.WL.val (some 18) (.agg CS) W7 rfl (by kernel_rfl) (Segs.run_row 25 (.tmp 3) rfl w.heap.size (by kernel_rfl) 25 CS _ K8.out Tryd.underlying25 rfl (info19 (NCS.out.size))) ?_
    simp only [Act.put, List.setIfInBounds_toArray, List.set_cons_zero, List.set_cons_succ]
    refine Segs.WL.call (some 19) 9 #[.agg CS] _ rfl (by kernel_rfl) (by kernel_rfl) (FEWN.out W7) (fun e W11 hR => ?_)
    obtain ⟨rfl, hb⟩ := hR
    refine ⟨_, rfl, ?_⟩
    simp only [Act.put, List.setIfInBounds_toArray, List.set_cons_zero, List.set_cons_succ]
    have K12 := Lib.hid (K8.out.below hb)
    have K13 := Lib.hid (K9.out.below hb)
    have B14 := Lib.hid (B10.out.call hb)
    clear hb
    refine Segs.WL.val (some 20) (.bool true) W11 rfl (by kernel_rfl) (by kernel_rfl) ?_
    simp only [Act.put, List.setIfInBounds_toArray, List.set_cons_zero, List.set_cons_succ]
    refine Segs.WL.val (some 21) (.agg CM) W11 rfl (by kernel_rfl) (Segs.run_row 25 (.tmp 4) rfl (w.heap.size + 1) (by kernel_rfl) 25 CM _ K13.out Tryd.underlying25 rfl (info19 (NCM.out.size))) ?_
    simp only [Act.put, List.setIfInBounds_toArray, List.set_cons_zero, List.set_cons_succ]
    refine Segs.WL.call (some 22) 9 #[.agg CM] _ rfl (by kernel_rfl) (by kernel_rfl) (FEWM.out W11) (fun e W15 hR => ?_)
    obtain ⟨rfl, hb⟩ := hR
    refine ⟨_, rfl, ?_⟩
    simp only [Act.put, List.setIfInBounds_toArray, List.set_cons_zero, List.set_cons_succ]
    have K16 := Lib.hid (K12.out.below hb)
    have K17 := Lib.hid (K13.out.below hb)
    have B18 := Lib.hid (B14.out.call hb)
    clear hb
    refine Segs.WL.val (some 23) (.bool true) W15 rfl (by kernel_rfl) (by kernel_rfl) ?_
    simp only [Act.put, List.setIfInBounds_toArray, List.set_cons_zero, List.set_cons_succ]
    refine Segs.WL.val (some 8) (.bool true) W15 rfl (by kernel_rfl) (by kernel_rfl) ?_
    simp only [Act.put, List.setIfInBounds_toArray, List.set_cons_zero, List.set_cons_succ]
    refine Segs.WL.nil ?_
    go_upto_region 5 with (fail)
    refine wp_region_lit (Segs.WL.out ?_)
    refine Segs.WL.val (some 24) (.bool true) W15 rfl (by kernel_rfl) (by kernel_rfl) ?_
    simp only [Act.put, List.setIfInBounds_toArray, List.set_cons_zero, List.set_cons_succ]
    refine Segs.WL.val (some 25) (.bool false) W15 rfl (by kernel_rfl) (by kernel_rfl) ?_
    simp only [Act.put, List.setIfInBounds_toArray, List.set_cons_zero, List.set_cons_succ]
    refine Segs.WL.val (some 26) (.bool false) W15 rfl (by kernel_rfl) (by kernel_rfl) ?_
    simp only [Act.put, List.setIfInBounds_toArray, List.set_cons_zero, List.set_cons_succ]
    refine Segs.WL.val (some 27) (.pointer (some ⟨w.heap.size, 0, none⟩)) W15 rfl (by kernel_rfl) (by kernel_rfl) ?_
    simp only [Act.put, List.setIfInBounds_toArray, List.set_cons_zero, List.set_cons_succ]
    refine Segs.WL.val (some 28) (.int .i64 k0) W15 rfl (by kernel_rfl) (Segs.run_cell 22 (.tmp 27) rfl w.heap.size 0 (by kernel_rfl) _ (isAggKind _) (by rw [K16.out.cell]; exact HK0.out)) ?_
    simp only [Act.put, List.setIfInBounds_toArray, List.set_cons_zero, List.set_cons_succ]
    refine Segs.WL.val (some 29) (.bool (!decide (k0 = 3))) W15 rfl (by kernel_rfl) (by kernel_rfl) ?_
    simp only [Act.put, List.setIfInBounds_toArray, List.set_cons_zero, List.set_cons_succ]
    rw [DK0.out]
    refine Segs.WL.val (some 30) (.bool false) W15 rfl (by kernel_rfl) (by kernel_rfl) ?_
    simp only [Act.put, List.setIfInBounds_toArray, List.set_cons_zero, List.set_cons_succ]
    refine Segs.WL.val (some 31) (.bool false) W15 rfl (by kernel_rfl) (by kernel_rfl) ?_
    simp only [Act.put, List.setIfInBounds_toArray, List.set_cons_zero, List.set_cons_succ]
    refine Segs.WL.val (some 32) (.pointer (some ⟨(w.heap.size + 1), 0, none⟩)) W15 rfl (by kernel_rfl) (by kernel_rfl) ?_
    simp only [Act.put, List.setIfInBounds_toArray, List.set_cons_zero, List.set_cons_succ]
    refine Segs.WL.val (some 33) (.int .i64 k1) W15 rfl (by kernel_rfl) (Segs.run_cell 22 (.tmp 32) rfl (w.heap.size + 1) 0 (by kernel_rfl) _ (isAggKind _) (by rw [K17.out.cell]; exact HK1.out)) ?_
    simp only [Act.put, List.setIfInBounds_toArray, List.set_cons_zero, List.set_cons_succ]
    refine Segs.WL.val (some 34) (.bool (decide (k1 = 0))) W15 rfl (by kernel_rfl) (by kernel_rfl) ?_
    simp only [Act.put, List.setIfInBounds_toArray, List.set_cons_zero, List.set_cons_succ]
    rw [DK1.out]
    refine Segs.WL.val (some 35) (.bool false) W15 rfl (by kernel_rfl) (by kernel_rfl) ?_
    simp only [Act.put, List.setIfInBounds_toArray, List.set_cons_zero, List.set_cons_succ]
    refine Segs.WL.val (some 36) (.bool false) W15 rfl (by kernel_rfl) (by kernel_rfl) ?_
    simp only [Act.put, List.setIfInBounds_toArray, List.set_cons_zero, List.set_cons_succ]
    refine Segs.WL.val (some 37) (.agg CS) W15 rfl (by kernel_rfl) (Segs.run_row 25 (.tmp 3) rfl w.heap.size (by kernel_rfl) 25 CS _ K16.out Tryd.underlying25 rfl (info19 (NCS.out.size))) ?_
    simp only [Act.put, List.setIfInBounds_toArray, List.set_cons_zero, List.set_cons_succ]
    refine Segs.WL.call (some 38) 12 #[.agg CS] _ rfl (by kernel_rfl) (by kernel_rfl) (VN.out W15 (LA.out _ B18.out.1).err) (fun e W19 hR => ?_)
    obtain ⟨rfl, hb⟩ := hR
    refine ⟨_, rfl, ?_⟩
    simp only [Act.put, List.setIfInBounds_toArray, List.set_cons_zero, List.set_cons_succ]
    have K20 := Lib.hid (K16.out.below hb)
    have K21 := Lib.hid (K17.out.below hb)
    have B22 := Lib.hid (B18.out.call hb)
    clear hb
    refine Segs.WL.val (some 39) (.bool true) W19 rfl (by kernel_rfl) (by kernel_rfl) ?_
    simp only [Act.put, List.setIfInBounds_toArray, List.set_cons_zero, List.set_cons_succ]
    refine Segs.WL.val (some 40) (.bool true) W19 rfl (by kernel_rfl) (by kernel_rfl) ?_
    simp only [Act.put, List.setIfInBounds_toArray, List.set_cons_zero, List.set_cons_succ]
    refine Segs.WL.val (some 41) (.bool true) W19 rfl (by kernel_rfl) (by kernel_rfl) ?_
    simp only [Act.put, List.setIfInBounds_toArray, List.set_cons_zero, List.set_cons_succ]
    refine Segs.WL.not (some 42) rfl (by kernel_rfl) ?_
    simp only [Act.put, List.setIfInBounds_toArray, List.set_cons_zero, List.set_cons_succ]
    refine Segs.WL.not (some 43) rfl (by kernel_rfl) ?_
    simp only [Act.put, List.setIfInBounds_toArray, List.set_cons_zero, List.set_cons_succ]
    refine Segs.WL.not (some 44) rfl (by kernel_rfl) ?_
    simp only [Act.put, List.setIfInBounds_toArray, List.set_cons_zero, List.set_cons_succ]
    refine Segs.WL.val (some 45) (.bool true) W19 rfl (by kernel_rfl) (by kernel_rfl) ?_
    simp only [Act.put, List.setIfInBounds_toArray, List.set_cons_zero, List.set_cons_succ]
    refine Segs.WL.nil ?_
    go_wp2_with fail
    go_ret
    exact ⟨rfl, B22.out.1⟩
  rw [hvn] at vn putn
  have VN := Lib.hid vn
  rcases hvm : validB a1 with _ | _
  · rw [hvm] at vm
    have VM := Lib.hid vm
    clear hl fewn fewm hCS hCM hZ0 hfn w0 w1 h16 g16 vn vm putn putm hk hk' w2 hp hfm hk00 hk10 hvn hvm
    have B0 := Lib.hid (Bl.start w)
    have K1 := Lib.hid (by have := Blk.new (w) 25 CS; simpa using this : Blk ((w).alloc (.cells CS 25)) w.heap.size 25 CS)
    have B2 := Lib.hid (B0.out.alloc (.cells CS 25))
    have K3 := Lib.hid (K1.out.alloc (.cells CM 25))
    have K4 := Lib.hid (by have := Blk.new (w.alloc (.cells CS 25)) 25 CM; simpa using this : Blk ((w.alloc (.cells CS 25)).alloc (.cells CM 25)) (w.heap.size + 1) 25 CM)
    have B5 := Lib.hid (B2.out.alloc (.cells CM 25))
    go_enter Tryd.func7, Tryd.ntmps7
    go_upto_region 1 with (fail)
    generalize (w.alloc (.cells CS 25)).alloc (.cells CM 25) = W6 at K3 K4 B5 ⊢
    refine wp_region_lit (Segs.WL.out ?_)
    refine Segs.WL.call (some 15) 8 #[] _ rfl (by kernel_rfl) (by kernel_rfl) (WK.out W6 (LA.out _ B5.out.1)) (fun e W7 hR => ?_)
    obtain ⟨rfl, hb⟩ := hR
    refine ⟨_, rfl, ?_⟩
    simp only [Act.put, List.setIfInBounds_toArray, List.set_cons_zero, List.set_cons_succ]
    have K8 := Lib.hid (K3.out.below hb)
    have K9 := Lib.hid (K4.out.below hb)
    have B10 := Lib.hid (B5.out.call hb)
    clear hb
    refine Segs.WL.val (some 7) (.bool true) W7 rfl (by kernel_rfl) (by kernel_rfl) ?_
    simp only [Act.put, List.setIfInBounds_toArray, List.set_cons_zero, List.set_cons_succ]
    refine Segs.WL.nil ?_
    go_upto_region 2 with (fail)
    refine wp_region_lit (Segs.WL.out ?_)
    refine Segs.WL.val (some 16) (.bool true) W7 rfl (by kernel_rfl) (by kernel_rfl) ?_
    simp only [Act.put, List.setIfInBounds_toArray, List.set_cons_zero, List.set_cons_succ]
    refine Segs.WL.val (some 17) (.bool false) W7 rfl (by kernel_rfl) (by kernel_rfl) ?_
    simp only [Act.put, List.setIfInBounds_toArray, List.set_cons_zero, List.set_cons_succ]
    refine Segs.WL.nil ?_
    go_upto_region 4 with (fail)
    refine wp_region_lit (Segs.WL.out ?_)
    refine Segs.WL.val (some 18) (.agg CS) W7 rfl (by kernel_rfl) (Segs.run_row 25 (.tmp 3) rfl w.heap.size (by kernel_rfl) 25 CS _ K8.out Tryd.underlying25 rfl (info19 (NCS.out.size))) ?_
    simp only [Act.put, List.setIfInBounds_toArray, List.set_cons_zero, List.set_cons_succ]
    refine Segs.WL.call (some 19) 9 #[.agg CS] _ rfl (by kernel_rfl) (by kernel_rfl) (FEWN.out W7) (fun e W11 hR => ?_)
    obtain ⟨rfl, hb⟩ := hR
    refine ⟨_, rfl, ?_⟩
    simp only [Act.put, List.setIfInBounds_toArray, List.set_cons_zero, List.set_cons_succ]
    have K12 := Lib.hid (K8.out.below hb)
    have K13 := Lib.hid (K9.out.below hb)
    have B14 := Lib.hid (B10.out.call hb)
    clear hb
    refine Segs.WL.val (some 20) (.bool true) W11 rfl (by kernel_rfl) (by kernel_rfl) ?_
    simp only [Act.put, List.setIfInBounds_toArray, List.set_cons_zero, List.set_cons_succ]
    refine Segs.WL.val (some 21) (.agg CM) W11 rfl (by kernel_rfl) (Segs.run_row 25 (.tmp 4) rfl (w.heap.size + 1) (by kernel_rfl) 25 CM _ K13.out Tryd.underlying25 rfl (info19 (NCM.out.size))) ?_
    simp only [Act.put, List.setIfInBounds_toArray, List.set_cons_zero, List.set_cons_succ]
    refine Segs.WL.call (some 22) 9 #[.agg CM] _ rfl (by kernel_rfl) (by kernel_rfl) (FEWM.out W11) (fun e W15 hR => ?_)
    obtain ⟨rfl, hb⟩ := hR
    refine ⟨_, rfl, ?_⟩
    simp only [Act.put, List.setIfInBounds_toArray, List.set_cons_zero, List.set_cons_succ]
    have K16 := Lib.hid (K12.out.below hb)
    have K17 := Lib.hid (K13.out.below hb)
    have B18 := Lib.hid (B14.out.call hb)
    clear hb
    refine Segs.WL.val (some 23) (.bool true) W15 rfl (by kernel_rfl) (by kernel_rfl) ?_
    simp only [Act.put, List.setIfInBounds_toArray, List.set_cons_zero, List.set_cons_succ]
    refine Segs.WL.val (some 8) (.bool true) W15 rfl (by kernel_rfl) (by kernel_rfl) ?_
    simp only [Act.put, List.setIfInBounds_toArray, List.set_cons_zero, List.set_cons_succ]
    refine Segs.WL.nil ?_
    go_upto_region 5 with (fail)
    refine wp_region_lit (Segs.WL.out ?_)
    refine Segs.WL.val (some 24) (.bool true) W15 rfl (by kernel_rfl) (by kernel_rfl) ?_
    simp only [Act.put, List.setIfInBounds_toArray, List.set_cons_zero, List.set_cons_succ]
    refine Segs.WL.val (some 25) (.bool false) W15 rfl (by kernel_rfl) (by kernel_rfl) ?_
    simp only [Act.put, List.setIfInBounds_toArray, List.set_cons_zero, List.set_cons_succ]
    refine Segs.WL.val (some 26) (.bool false) W15 rfl (by kernel_rfl) (by kernel_rfl) ?_
    simp only [Act.put, List.setIfInBounds_toArray, List.set_cons_zero, List.set_cons_succ]
    refine Segs.WL.val (some 27) (.pointer (some ⟨w.heap.size, 0, none⟩)) W15 rfl (by kernel_rfl) (by kernel_rfl) ?_
    simp only [Act.put, List.setIfInBounds_toArray, List.set_cons_zero, List.set_cons_succ]
    refine Segs.WL.val (some 28) (.int .i64 k0) W15 rfl (by kernel_rfl) (Segs.run_cell 22 (.tmp 27) rfl w.heap.size 0 (by kernel_rfl) _ (isAggKind _) (by rw [K16.out.cell]; exact HK0.out)) ?_
    simp only [Act.put, List.setIfInBounds_toArray, List.set_cons_zero, List.set_cons_succ]
    refine Segs.WL.val (some 29) (.bool (!decide (k0 = 3))) W15 rfl (by kernel_rfl) (by kernel_rfl) ?_
    simp only [Act.put, List.setIfInBounds_toArray, List.set_cons_zero, List.set_cons_succ]
    rw [DK0.out]
    refine Segs.WL.val (some 30) (.bool false) W15 rfl (by kernel_rfl) (by kernel_rfl) ?_
    simp only [Act.put, List.setIfInBounds_toArray, List.set_cons_zero, List.set_cons_succ]
    refine Segs.WL.val (some 31) (.bool false) W15 rfl (by kernel_rfl) (by kernel_rfl) ?_
    simp only [Act.put, List.setIfInBounds_toArray, List.set_cons_zero, List.set_cons_succ]
    refine Segs.WL.val (some 32) (.pointer (some ⟨(w.heap.size + 1), 0, none⟩)) W15 rfl (by kernel_rfl) (by kernel_rfl) ?_
    simp only [Act.put, List.setIfInBounds_toArray, List.set_cons_zero, List.set_cons_succ]
    refine Segs.WL.val (some 33) (.int .i64 k1) W15 rfl (by kernel_rfl) (Segs.run_cell 22 (.tmp 32) rfl (w.heap.size + 1) 0 (by kernel_rfl) _ (isAggKind _) (by rw [K17.out.cell]; exact HK1.out)) ?_
    simp only [Act.put, List.setIfInBounds_toArray, List.set_cons_zero, List.set_cons_succ]
    refine Segs.WL.val (some 34) (.bool (decide (k1 = 0))) W15 rfl (by kernel_rfl) (by kernel_rfl) ?_
    simp only [Act.put, List.setIfInBounds_toArray, List.set_cons_zero, List.set_cons_succ]
    rw [DK1.out]
    refine Segs.WL.val (some 35) (.bool false) W15 rfl (by kernel_rfl) (by kernel_rfl) ?_
    simp only [Act.put, List.setIfInBounds_toArray, List.set_cons_zero, List.set_cons_succ]
    refine Segs.WL.val (some 36) (.bool false) W15 rfl (by kernel_rfl) (by kernel_rfl) ?_
    simp only [Act.put, List.setIfInBounds_toArray, List.set_cons_zero, List.set_cons_succ]
    refine Segs.WL.val (some 37) (.agg CS) W15 rfl (by kernel_rfl) (Segs.run_row 25 (.tmp 3) rfl w.heap.size (by kernel_rfl) 25 CS _ K16.out Tryd.underlying25 rfl (info19 (NCS.out.size))) ?_
    simp only [Act.put, List.setIfInBounds_toArray, List.set_cons_zero, List.set_cons_succ]
    refine Segs.WL.call (some 38) 12 #[.agg CS] _ rfl (by kernel_rfl) (by kernel_rfl) (VN.out W15 (LA.out _ B18.out.1).err) (fun e W19 hR => ?_)
    obtain ⟨rfl, hb⟩ := hR
    refine ⟨_, rfl, ?_⟩
    simp only [Act.put, List.setIfInBounds_toArray, List.set_cons_zero, List.set_cons_succ]
    have K20 := Lib.hid (K16.out.below hb)
    have K21 := Lib.hid (K17.out.below hb)
    have B22 := Lib.hid (B18.out.call hb)
    clear hb
    refine Segs.WL.val (some 39) (.bool false) W19 rfl (by kernel_rfl) (by kernel_rfl) ?_
    simp only [Act.put, List.setIfInBounds_toArray, List.set_cons_zero, List.set_cons_succ]
    refine Segs.WL.val (some 40) (.bool false) W19 rfl (by kernel_rfl) (by kernel_rfl) ?_
    simp only [Act.put, List.setIfInBounds_toArray, List.set_cons_zero, List.set_cons_succ]
    refine Segs.WL.val (some 41) (.bool false) W19 rfl (by kernel_rfl) (by kernel_rfl) ?_
    simp only [Act.put, List.setIfInBounds_toArray, List.set_cons_zero, List.set_cons_succ]
    refine Segs.WL.val (some 42) (.agg CM) W19 rfl (by kernel_rfl) (Segs.run_row 25 (.tmp 4) rfl (w.heap.size + 1) (by kernel_rfl) 25 CM _ K21.out Tryd.underlying25 rfl (info19 (NCM.out.size))) ?_
    simp only [Act.put, List.setIfInBounds_toArray, List.set_cons_zero, List.set_cons_succ]
    refine Segs.WL.call (some 43) 12 #[.agg CM] _ rfl (by kernel_rfl) (by kernel_rfl) (VM.out W19 (LA.out _ B22.out.1).err) (fun e W23 hR => ?_)
    obtain ⟨rfl, hb⟩ := hR
    refine ⟨_, rfl, ?_⟩
    simp only [Act.put, List.setIfInBounds_toArray, List.set_cons_zero, List.set_cons_succ]
    have K24 := Lib.hid (K20.out.below hb)
    have K25 := Lib.hid (K21.out.below hb)
    have B26 := Lib.hid (B22.out.call hb)
    clear hb
    refine Segs.WL.val (some 44) (.bool true) W23 rfl (by kernel_rfl) (by kernel_rfl) ?_
    simp only [Act.put, List.setIfInBounds_toArray, List.set_cons_zero, List.set_cons_succ]
    refine Segs.WL.val (some 45) (.bool true) W23 rfl (by kernel_rfl) (by kernel_rfl) ?_
    simp only [Act.put, List.setIfInBounds_toArray, List.set_cons_zero, List.set_cons_succ]
    refine Segs.WL.nil ?_
    go_wp2_with fail
    go_ret
    exact ⟨rfl, B26.out.1⟩
  rw [hvm] at vm putm
  have VM := Lib.hid vm
  obtain ⟨RQ, hRQ⟩ : ∃ z, z = rf a0 (p % 16) := ⟨_, rfl⟩
  have HRQ := Lib.hid (show CS[3 + p % 16]? = some (.string RQ) by rw [hCS, hRQ]; exact ndC_rf a0 (p % 16) (Nat.mod_lt _ (by decide)))
  by_cases he : RQ = e0
  rotate_left
  · have HRE := Lib.hid (show decide (RQ = ⟨#[]⟩) = false from decide_eq_false he)
    clear hl fewn fewm hCS hCM hZ0 hfn w0 w1 h16 g16 vn vm putn putm hk hk' w2 hp hfm hk00 hk10 hvn hvm hRQ he
    have B0 := Lib.hid (Bl.start w)
    have K1 := Lib.hid (by have := Blk.new (w) 25 CS; simpa using this : Blk ((w).alloc (.cells CS 25)) w.heap.size 25 CS)
    have B2 := Lib.hid (B0.out.alloc (.cells CS 25))
    have K3 := Lib.hid (K1.out.alloc (.cells CM 25))
    have K4 := Lib.hid (by have := Blk.new (w.alloc (.cells CS 25)) 25 CM; simpa using this : Blk ((w.alloc (.cells CS 25)).alloc (.cells CM 25)) (w.heap.size + 1) 25 CM)
    have B5 := Lib.hid (B2.out.alloc (.cells CM 25))
    go_enter Tryd.func7, Tryd.ntmps7
    go_upto_region 1 with (fail)
    generalize (w.alloc (.cells CS 25)).alloc (.cells CM 25) = W6 at K3 K4 B5 ⊢
    refine wp_region_lit (Segs.WL.out ?_)
    refine Segs.WL.call (some 15) 8 #[] _ rfl (by kernel_rfl) (by kernel_rfl) (WK.out W6 (LA.out _ B5.out.1)) (fun e W7 hR => ?_)
    obtain ⟨rfl, hb⟩ := hR
    refine ⟨_, rfl, ?_⟩
    simp only [Act.put, List.setIfInBounds_toArray, List.set_cons_zero, List.set_cons_succ]
    have K8 := Lib.hid (K3.out.below hb)
    have K9 := Lib.hid (K4.out.below hb)
    have B10 := Lib.hid (B5.out.call hb)
    clear hb
    refine Segs.WL.val (some 7) (.bool true) W7 rfl (by kernel_rfl) (by kernel_rfl) ?_
    simp only [Act.put, List.setIfInBounds_toArray, List.set_cons_zero, List.set_cons_succ]
    refine Segs.WL.nil ?_
    go_upto_region 2 with (fail)
    refine wp_region_lit (Segs.WL.out ?_)
    refine Segs.WL.val (some 16) (.bool true) W7 rfl (by kernel_rfl) (by kernel_rfl) ?_
    simp only [Act.put, List.setIfInBounds_toArray, List.set_cons_zero, List.set_cons_succ]
    refine Segs.WL.val (some 17) (.bool false) W7 rfl (by kernel_rfl) (by kernel_rfl) ?_
    simp only [Act.put, List.setIfInBounds_toArray, List.set_cons_zero, List.set_cons_succ]
    refine Segs.WL.nil ?_
    go_upto_region 4 with (fail)
    refine wp_region_lit (Segs.WL.out ?_)
    refine Segs.WL.val (some 18) (.agg CS) W7 rfl (by kernel_rfl) (Segs.run_row 25 (.tmp 3) rfl w.heap.size (by kernel_rfl) 25 CS _ K8.out Tryd.underlying25 rfl (info19 (NCS.out.size))) ?_
    simp only [Act.put, List.setIfInBounds_toArray, List.set_cons_zero, List.set_cons_succ]
    refine Segs.WL.call (some 19) 9 #[.agg CS] _ rfl (by kernel_rfl) (by kernel_rfl) (FEWN.out W7) (fun e W11 hR => ?_)
    obtain ⟨rfl, hb⟩ := hR
    refine ⟨_, rfl, ?_⟩
    simp only [Act.put, List.setIfInBounds_toArray, List.set_cons_zero, List.set_cons_succ]
    have K12 := Lib.hid (K8.out.below hb)
    have K13 := Lib.hid (K9.out.below hb)
    have B14 := Lib.hid (B10.out.call hb)
    clear hb
    refine Segs.WL.val (some 20) (.bool true) W11 rfl (by kernel_rfl) (by kernel_rfl) ?_
    simp only [Act.put, List.setIfInBounds_toArray, List.set_cons_zero, List.set_cons_succ]
    refine Segs.WL.val (some 21) (.agg CM) W11 rfl (by kernel_rfl) (Segs.run_row 25 (.tmp 4) rfl (w.heap.size + 1) (by kernel_rfl) 25 CM _ K13.out Tryd.underlying25 rfl (info19 (NCM.out.size))) ?_
    simp only [Act.put, List.setIfInBounds_toArray, List.set_cons_zero, List.set_cons_succ]
    refine Segs.WL.call (some 22) 9 #[.agg CM] _ rfl (by kernel_rfl) (by kernel_rfl) (FEWM.out W11) (fun e W15 hR => ?_)
    obtain ⟨rfl, hb⟩ := hR
    refine ⟨_, rfl, ?_⟩
    simp only [Act.put, List.setIfInBounds_toArray, List.set_cons_zero, List.set_cons_succ]
    have K16 := Lib.hid (K12.out.below hb)
    have K17 := Lib.hid (K13.out.below hb)
    have B18 := Lib.hid (B14.out.call hb)
    clear hb
    refine Segs.WL.val (some 23) (.bool true) W15 rfl (by kernel_rfl) (by kernel_rfl) ?_
    simp only [Act.put, List.setIfInBounds_toArray, List.set_cons_zero, List.set_cons_succ]
    refine Segs.WL.val (some 8) (.bool true) W15 rfl (by kernel_rfl) (by kernel_rfl) ?_
    simp only [Act.put, List.setIfInBounds_toArray, List.set_cons_zero, List.set_cons_succ]
    refine Segs.WL.nil ?_
    go_upto_region 5 with (fail)
    refine wp_region_lit (Segs.WL.out ?_)
    refine Segs.WL.val (some 24) (.bool true) W15 rfl (by kernel_rfl) (by kernel_rfl) ?_
    simp only [Act.put, List.setIfInBounds_toArray, List.set_cons_zero, List.set_cons_succ]
    refine Segs.WL.val (some 25) (.bool false) W15 rfl (by kernel_rfl) (by kernel_rfl) ?_
    simp only [Act.put, List.setIfInBounds_toArray, List.set_cons_zero, List.set_cons_succ]
    refine Segs.WL.val (some 26) (.bool false) W15 rfl (by kernel_rfl) (by kernel_rfl) ?_
    simp only [Act.put, List.setIfInBounds_toArray, List.set_cons_zero, List.set_cons_succ]
    refine Segs.WL.val (some 27) (.pointer (some ⟨w.heap.size, 0, none⟩)) W15 rfl (by kernel_rfl) (by kernel_rfl) ?_
    simp only [Act.put, List.setIfInBounds_toArray, List.set_cons_zero, List.set_cons_succ]
    refine Segs.WL.val (some 28) (.int .i64 k0) W15 rfl (by kernel_rfl) (Segs.run_cell 22 (.tmp 27) rfl w.heap.size 0 (by kernel_rfl) _ (isAggKind _) (by rw [K16.out.cell]; exact HK0.out)) ?_
    simp only [Act.put, List.setIfInBounds_toArray, List.set_cons_zero, List.set_cons_succ]
    refine Segs.WL.val (some 29) (.bool (!decide (k0 = 3))) W15 rfl (by kernel_rfl) (by kernel_rfl) ?_
    simp only [Act.put, List.setIfInBounds_toArray, List.set_cons_zero, List.set_cons_succ]
    rw [DK0.out]
    refine Segs.WL.val (some 30) (.bool false) W15 rfl (by kernel_rfl) (by kernel_rfl) ?_
    simp only [Act.put, List.setIfInBounds_toArray, List.set_cons_zero, List.set_cons_succ]
    refine Segs.WL.val (some 31) (.bool false) W15 rfl (by kernel_rfl) (by kernel_rfl) ?_
    simp only [Act.put, List.setIfInBounds_toArray, List.set_cons_zero, List.set_cons_succ]
    refine Segs.WL.val (some 32) (.pointer (some ⟨(w.heap.size + 1), 0, none⟩)) W15 rfl (by kernel_rfl) (by kernel_rfl) ?_
    simp only [Act.put, List.setIfInBounds_toArray, List.set_cons_zero, List.set_cons_succ]
    refine Segs.WL.val (some 33) (.int .i64 k1) W15 rfl (by kernel_rfl) (Segs.run_cell 22 (.tmp 32) rfl (w.heap.size + 1) 0 (by kernel_rfl) _ (isAggKind _) (by rw [K17.out.cell]; exact HK1.out)) ?_
    simp only [Act.put, List.setIfInBounds_toArray, List.set_cons_zero, List.set_cons_succ]
    refine Segs.WL.val (some 34) (.bool (decide (k1 = 0))) W15 rfl (by kernel_rfl) (by kernel_rfl) ?_
    simp only [Act.put, List.setIfInBounds_toArray, List.set_cons_zero, List.set_cons_succ]
    rw [DK1.out]
    refine Segs.WL.val (some 35) (.bool false) W15 rfl (by kernel_rfl) (by kernel_rfl) ?_
    simp only [Act.put, List.setIfInBounds_toArray, List.set_cons_zero, List.set_cons_succ]
    refine Segs.WL.val (some 36) (.bool false) W15 rfl (by kernel_rfl) (by kernel_rfl) ?_
    simp only [Act.put, List.setIfInBounds_toArray, List.set_cons_zero, List.set_cons_succ]
    refine Segs.WL.val (some 37) (.agg CS) W15 rfl (by kernel_rfl) (Segs.run_row 25 (.tmp 3) rfl w.heap.size (by kernel_rfl) 25 CS _ K16.out Tryd.underlying25 rfl (info19 (NCS.out.size))) ?_
    simp only [Act.put, List.setIfInBounds_toArray, List.set_cons_zero, List.set_cons_succ]
    refine Segs.WL.call (some 38) 12 #[.agg CS] _ rfl (by kernel_rfl) (by kernel_rfl) (VN.out W15 (LA.out _ B18.out.1).err) (fun e W19 hR => ?_)
    obtain ⟨rfl, hb⟩ := hR
    refine ⟨_, rfl, ?_⟩
    simp only [Act.put, List.setIfInBounds_toArray, List.set_cons_zero, List.set_cons_succ]
    have K20 := Lib.hid (K16.out.below hb)
    have K21 := Lib.hid (K17.out.below hb)
    have B22 := Lib.hid (B18.out.call hb)
    clear hb
    refine Segs.WL.val (some 39) (.bool false) W19 rfl (by kernel_rfl) (by kernel_rfl) ?_
    simp only [Act.put, List.setIfInBounds_toArray, List.set_cons_zero, List.set_cons_succ]
    refine Segs.WL.val (some 40) (.bool false) W19 rfl (by kernel_rfl) (by kernel_rfl) ?_
    simp only [Act.put, List.setIfInBounds_toArray, List.set_cons_zero, List.set_cons_succ]
    refine Segs.WL.val (some 41) (.bool false) W19 rfl (by kernel_rfl) (by kernel_rfl) ?_
    simp only [Act.put, List.setIfInBounds_toArray, List.set_cons_zero, List.set_cons_succ]
    refine Segs.WL.val (some 42) (.agg CM) W19 rfl (by kernel_rfl) (Segs.run_row 25 (.tmp 4) rfl (w.heap.size + 1) (by kernel_rfl) 25 CM _ K21.out Tryd.underlying25 rfl (info19 (NCM.out.size))) ?_
    simp only [Act.put, List.setIfInBounds_toArray, List.set_cons_zero, List.set_cons_succ]
    refine Segs.WL.call (some 43) 12 #[.agg CM] _ rfl (by kernel_rfl) (by kernel_rfl) (VM.out W19 (LA.out _ B22.out.1).err) (fun e W23 hR => ?_)
    obtain ⟨rfl, hb⟩ := hR
    refine ⟨_, rfl, ?_⟩
    simp only [Act.put, List.setIfInBounds_toArray, List.set_cons_zero, List.set_cons_succ]
    have K24 := Lib.hid (K20.out.below hb)
    have K25 := Lib.hid (K21.out.below hb)
    have B26 := Lib.hid (B22.out.call hb)
    clear hb
    refine Segs.WL.val (some 44) (.bool false) W23 rfl (by kernel_rfl) (by kernel_rfl) ?_
    simp only [Act.put, List.setIfInBounds_toArray, List.set_cons_zero, List.set_cons_succ]
    refine Segs.WL.val (some 45) (.bool false) W23 rfl (by kernel_rfl) (by kernel_rfl) ?_
    simp only [Act.put, List.setIfInBounds_toArray, List.set_cons_zero, List.set_cons_succ]
    refine Segs.WL.nil ?_
    go_upto_region 7 with (fail)
    refine wp_region_lit (Segs.WL.out ?_)
    refine Segs.WL.val (some 47) (.int .u8 (((p : Nat) : Int))) W23 rfl (by kernel_rfl) (by kernel_rfl) ?_
    simp only [Act.put, List.setIfInBounds_toArray, List.set_cons_zero, List.set_cons_succ]
    refine Segs.WL.val (some 48) (.int .i64 (((p : Nat) : Int))) W23 rfl (by kernel_rfl) (run_conv8 rfl p (by kernel_rfl) HP8.out) ?_
    simp only [Act.put, List.setIfInBounds_toArray, List.set_cons_zero, List.set_cons_succ]
    refine Segs.WL.val (some 49) (.int .i64 (((p % 16 : Nat) : Int))) W23 rfl (by kernel_rfl) (run_rem16 rfl p (by kernel_rfl)) ?_
    simp only [Act.put, List.setIfInBounds_toArray, List.set_cons_zero, List.set_cons_succ]
    refine Segs.WL.val (some 9) (.int .i64 (((p % 16 : Nat) : Int))) W23 rfl (by kernel_rfl) (by kernel_rfl) ?_
    simp only [Act.put, List.setIfInBounds_toArray, List.set_cons_zero, List.set_cons_succ]
    refine Segs.WL.nil ?_
    go_upto_region 8 with (fail)
    refine wp_region_lit (Segs.WL.out ?_)
    refine Segs.WL.val (some 50) (.int .i64 (((p % 16 : Nat) : Int))) W23 rfl (by kernel_rfl) (by kernel_rfl) ?_
    simp only [Act.put, List.setIfInBounds_toArray, List.set_cons_zero, List.set_cons_succ]
    refine Segs.WL.val (some 51) (.pointer (some ⟨w.heap.size, 3, none⟩)) W23 rfl (by kernel_rfl) (by kernel_rfl) ?_
    simp only [Act.put, List.setIfInBounds_toArray, List.set_cons_zero, List.set_cons_succ]
    refine Segs.WL.val (some 52) (.pointer (some ⟨w.heap.size, (3 + p % 16), none⟩)) W23 rfl (by kernel_rfl) (run_index16 rfl w.heap.size 3 (p % 16) (by kernel_rfl) (by kernel_rfl) (Nat.mod_lt _ (by decide))) ?_
    simp only [Act.put, List.setIfInBounds_toArray, List.set_cons_zero, List.set_cons_succ]
    refine Segs.WL.val (some 53) (.string RQ) W23 rfl (by kernel_rfl) (Segs.run_cell 9 (.tmp 52) rfl w.heap.size (3 + p % 16) (by kernel_rfl) _ (isAggS _) (by rw [K24.out.cell]; exact HRQ.out)) ?_
    simp only [Act.put, List.setIfInBounds_toArray, List.set_cons_zero, List.set_cons_succ]
    refine Segs.WL.val (some 54) (.bool !false) W23 rfl (by kernel_rfl) (run_nes rfl RQ ⟨#[]⟩ (by kernel_rfl) (by kernel_rfl) false (HRE.out)) ?_
    simp only [Act.put, List.setIfInBounds_toArray, List.set_cons_zero, List.set_cons_succ]
    refine Segs.WL.nil ?_
    go_wp2_with fail
    go_ret
    exact ⟨rfl, B26.out.1⟩
  have HRE := Lib.hid (show decide (RQ = ⟨#[]⟩) = true from decide_eq_true he)
  have hm0 : a1.kind ≠ 0 := by rw [← hk']; exact hk10
  have h3 : a0.kind = 3 := by rw [← hk]; exact hk00
  have hi : p % 16 < 16 := Nat.mod_lt _ (by decide)
  have he' : rf a0 (p % 16) = e0 := by rw [← hRQ]; exact he
  simp only [if_true] at putn putm
  obtain ⟨_, bz', _⟩ := back_read a1 hvm g16
  have reft := fun W h => ref_any (bytesB a1) W (by omega) h
  have gv := grown_valid hvn h3 h16 hi he' hvm g16 hm0
  have hgr := hashes_grown hvn h3 h16 hi he' hvm g16 hm0
  have s16 : (setR a0 (p % 16) (refB (bytesB a1))).refs.length = 16 := by rw [setR_len]; exact h16
  have hhn := fun W h => hashes_len a0 h16 W h
  have hhm := fun W h => hashes_len a1 g16 W h
  have hhg := fun W h => hashes_len _ s16 W h
  have vg := fun W h => wk_valid _ s16 W h
  rw [gv] at vg
  rw [hgr] at hhg
  have scs := setR_ref a0 h16 _ hi (refB (bytesB a1))
  have l0 := hashes_le a0
  have l1 := hashes_le a1
  obtain ⟨CG, hCG⟩ : ∃ z, z = ndC (setR a0 (p % 16) (refB (bytesB a1))) := ⟨_, rfl⟩
  have NCG := Lib.hid (show Ndc CG by rw [hCG]; exact .of _)
  rw [← hCG] at hhg vg scs
  rw [← hCS] at hhn scs
  rw [← hCM] at hhm
  have HL0 := Lib.hid (show (hashes a0).length ≤ 1000 by omega)
  have HL1 := Lib.hid (show (hashes a1).length ≤ 1000 by omega)
  have HONE := Lib.hid (show 1 ≤ 1000 by decide)
  by_cases hs : (bytesB a1).size < 32
  · skip
    have HLT := Lib.hid (show decide (((bytesB a1).size : Int) < (32 : Int)) = true by simp; omega)
    rw [if_pos hs] at hhg
    obtain ⟨A, hA⟩ : ∃ z, z = refB (bytesB a1) := ⟨_, rfl⟩
    obtain ⟨T, hT⟩ : ∃ z, z = bytesB a1 := ⟨_, rfl⟩
    rw [← hA] at reft scs
    rw [← hT] at putm reft HLT
    obtain ⟨n0, hn0⟩ : ∃ z, z = (hashes a0).length := ⟨_, rfl⟩
    obtain ⟨n1, hn1⟩ : ∃ z, z = (hashes a1).length := ⟨_, rfl⟩
    rw [← hn0] at hhn hhg HL0
    rw [← hn1] at hhm HL1 hhg
    have DEQ := Lib.hid (show decide (((n0 + n1 : Nat) : Int) = ((n0 + n1 : Nat) : Int)) = true from decide_eq_true rfl)
    have PM := Lib.hid putm
    have REFT := Lib.hid reft
    have HHN := Lib.hid hhn
    have HHM := Lib.hid hhm
    have HHG := Lib.hid hhg
    have VG := Lib.hid vg
    have CSG := Lib.hid scs
    clear hl fewn fewm hCS hCM hZ0 hfn w0 w1 h16 g16 vn vm putn putm hk hk' w2 hp hfm hk00 hk10 hvn hvm hRQ he he' hm0 h3 hi reft gv hgr s16 hhn hhm hhg vg scs l0 l1 hCG bz' hs hA hT hn0 hn1
    have B0 := Lib.hid (Bl.start w)
    have K1 := Lib.hid (by have := Blk.new (w) 25 CS; simpa using this : Blk ((w).alloc (.cells CS 25)) w.heap.size 25 CS)
    have B2 := Lib.hid (B0.out.alloc (.cells CS 25))
    have K3 := Lib.hid (K1.out.alloc (.cells CM 25))
    have K4 := Lib.hid (by have := Blk.new (w.alloc (.cells CS 25)) 25 CM; simpa using this : Blk ((w.alloc (.cells CS 25)).alloc (.cells CM 25)) (w.heap.size + 1) 25 CM)
    have B5 := Lib.hid (B2.out.alloc (.cells CM 25))
    go_enter Tryd.func7, Tryd.ntmps7
    go_upto_region 1 with (fail)
    generalize (w.alloc (.cells CS 25)).alloc (.cells CM 25) = W6 at K3 K4 B5 ⊢
    refine wp_region_lit (Segs.WL.out ?_)
    refine Segs.WL.call (some 15) 8 #[] _ rfl (by kernel_rfl) (by kernel_rfl) (WK.out W6 (LA.out _ B5.out.1)) (fun e W7 hR => ?_)
    obtain ⟨rfl, hb⟩ := hR
    refine ⟨_, rfl, ?_⟩
    simp only [Act.put, List.setIfInBounds_toArray, List.set_cons_zero, List.set_cons_succ]
    have K8 := Lib.hid (K3.out.below hb)
    have K9 := Lib.hid (K4.out.below hb)
    have B10 := Lib.hid (B5.out.call hb)
    clear hb
    refine Segs.WL.val (some 7) (.bool true) W7 rfl (by kernel_rfl) (by kernel_rfl) ?_
    simp only [Act.put, List.setIfInBounds_toArray, List.set_cons_zero, List.set_cons_succ]
    refine Segs.WL.nil ?_
    go_upto_region 2 with (fail)
    refine wp_region_lit (Segs.WL.out ?_)
    refine Segs.WL.val (some 16) (.bool true) W7 rfl (by kernel_rfl) (by kernel_rfl) ?_
    simp only [Act.put, List.setIfInBounds_toArray, List.set_cons_zero, List.set_cons_succ]
    refine Segs.WL.val (some 17) (.bool false) W7 rfl (by kernel_rfl) (by kernel_rfl) ?_
    simp only [Act.put, List.setIfInBounds_toArray, List.set_cons_zero, List.set_cons_succ]
    refine Segs.WL.nil ?_
    go_upto_region 4 with (fail)
    refine wp_region_lit (Segs.WL.out ?_)
    refine Segs.WL.val (some 18) (.agg CS) W7 rfl (by kernel_rfl) (Segs.run_row 25 (.tmp 3) rfl w.heap.size (by kernel_rfl) 25 CS _ K8.out Tryd.underlying25 rfl (info19 (NCS.out.size))) ?_
    simp only [Act.put, List.setIfInBounds_toArray, List.set_cons_zero, List.set_cons_succ]
    refine Segs.WL.call (some 19) 9 #[.agg CS] _ rfl (by kernel_rfl) (by kernel_rfl) (FEWN.out W7) (fun e W11 hR => ?_)
    obtain ⟨rfl, hb⟩ := hR
    refine ⟨_, rfl, ?_⟩
    simp only [Act.put, List.setIfInBounds_toArray, List.set_cons_zero, List.set_cons_succ]
    have K12 := Lib.hid (K8.out.below hb)
    have K13 := Lib.hid (K9.out.below hb)
    have B14 := Lib.hid (B10.out.call hb)
    clear hb
    refine Segs.WL.val (some 20) (.bool true) W11 rfl (by kernel_rfl) (by kernel_rfl) ?_
    simp only [Act.put, List.setIfInBounds_toArray, List.set_cons_zero, List.set_cons_succ]
    refine Segs.WL.val (some 21) (.agg CM) W11 rfl (by kernel_rfl) (Segs.run_row 25 (.tmp 4) rfl (w.heap.size + 1) (by kernel_rfl) 25 CM _ K13.out Tryd.underlying25 rfl (info19 (NCM.out.size))) ?_
    simp only [Act.put, List.setIfInBounds_toArray, List.set_cons_zero, List.set_cons_succ]
    refine Segs.WL.call (some 22) 9 #[.agg CM] _ rfl (by kernel_rfl) (by kernel_rfl) (FEWM.out W11) (fun e W15 hR => ?_)
    obtain ⟨rfl, hb⟩ := hR
    refine ⟨_, rfl, ?_⟩
    simp only [Act.put, List.setIfInBounds_toArray, List.set_cons_zero, List.set_cons_succ]
    have K16 := Lib.hid (K12.out.below hb)
    have K17 := Lib.hid (K13.out.below hb)
    have B18 := Lib.hid (B14.out.call hb)
    clear hb
    refine Segs.WL.val (some 23) (.bool true) W15 rfl (by kernel_rfl) (by kernel_rfl) ?_
    simp only [Act.put, List.setIfInBounds_toArray, List.set_cons_zero, List.set_cons_succ]
    refine Segs.WL.val (some 8) (.bool true) W15 rfl (by kernel_rfl) (by kernel_rfl) ?_
    simp only [Act.put, List.setIfInBounds_toArray, List.set_cons_zero, List.set_cons_succ]
    refine Segs.WL.nil ?_
    go_upto_region 5 with (fail)
    refine wp_region_lit (Segs.WL.out ?_)
    refine Segs.WL.val (some 24) (.bool true) W15 rfl (by kernel_rfl) (by kernel_rfl) ?_
    simp only [Act.put, List.setIfInBounds_toArray, List.set_cons_zero, List.set_cons_succ]
    refine Segs.WL.val (some 25) (.bool false) W15 rfl (by kernel_rfl) (by kernel_rfl) ?_
    simp only [Act.put, List.setIfInBounds_toArray, List.set_cons_zero, List.set_cons_succ]
    refine Segs.WL.val (some 26) (.bool false) W15 rfl (by kernel_rfl) (by kernel_rfl) ?_
    simp only [Act.put, List.setIfInBounds_toArray, List.set_cons_zero, List.set_cons_succ]
    refine Segs.WL.val (some 27) (.pointer (some ⟨w.heap.size, 0, none⟩)) W15 rfl (by kernel_rfl) (by kernel_rfl) ?_
    simp only [Act.put, List.setIfInBounds_toArray, List.set_cons_zero, List.set_cons_succ]
    refine Segs.WL.val (some 28) (.int .i64 k0) W15 rfl (by kernel_rfl) (Segs.run_cell 22 (.tmp 27) rfl w.heap.size 0 (by kernel_rfl) _ (isAggKind _) (by rw [K16.out.cell]; exact HK0.out)) ?_
    simp only [Act.put, List.setIfInBounds_toArray, List.set_cons_zero, List.set_cons_succ]
    refine Segs.WL.val (some 29) (.bool (!decide (k0 = 3))) W15 rfl (by kernel_rfl) (by kernel_rfl) ?_
    simp only [Act.put, List.setIfInBounds_toArray, List.set_cons_zero, List.set_cons_succ]
    rw [DK0.out]
    refine Segs.WL.val (some 30) (.bool false) W15 rfl (by kernel_rfl) (by kernel_rfl) ?_
    simp only [Act.put, List.setIfInBounds_toArray, List.set_cons_zero, List.set_cons_succ]
    refine Segs.WL.val (some 31) (.bool false) W15 rfl (by kernel_rfl) (by kernel_rfl) ?_
    simp only [Act.put, List.setIfInBounds_toArray, List.set_cons_zero, List.set_cons_succ]
    refine Segs.WL.val (some 32) (.pointer (some ⟨(w.heap.size + 1), 0, none⟩)) W15 rfl (by kernel_rfl) (by kernel_rfl) ?_
    simp only [Act.put, List.setIfInBounds_toArray, List.set_cons_zero, List.set_cons_succ]
    refine Segs.WL.val (some 33) (.int .i64 k1) W15 rfl (by kernel_rfl) (Segs.run_cell 22 (.tmp 32) rfl (w.heap.size + 1) 0 (by kernel_rfl) _ (isAggKind _) (by rw [K17.out.cell]; exact HK1.out)) ?_
    simp only [Act.put, List.setIfInBounds_toArray, List.set_cons_zero, List.set_cons_succ]
    refine Segs.WL.val (some 34) (.bool (decide (k1 = 0))) W15 rfl (by kernel_rfl) (by kernel_rfl) ?_
    simp only [Act.put, List.setIfInBounds_toArray, List.set_cons_zero, List.set_cons_succ]
    rw [DK1.out]
    refine Segs.WL.val (some 35) (.bool false) W15 rfl (by kernel_rfl) (by kernel_rfl) ?_
    simp only [Act.put, List.setIfInBounds_toArray, List.set_cons_zero, List.set_cons_succ]
    refine Segs.WL.val (some 36) (.bool false) W15 rfl (by kernel_rfl) (by kernel_rfl) ?_
    simp only [Act.put, List.setIfInBounds_toArray, List.set_cons_zero, List.set_cons_succ]
    refine Segs.WL.val (some 37) (.agg CS) W15 rfl (by kernel_rfl) (Segs.run_row 25 (.tmp 3) rfl w.heap.size (by kernel_rfl) 25 CS _ K16.out Tryd.underlying25 rfl (info19 (NCS.out.size))) ?_
    simp only [Act.put, List.setIfInBounds_toArray, List.set_cons_zero, List.set_cons_succ]
    refine Segs.WL.call (some 38) 12 #[.agg CS] _ rfl (by kernel_rfl) (by kernel_rfl) (VN.out W15 (LA.out _ B18.out.1).err) (fun e W19 hR => ?_)
    obtain ⟨rfl, hb⟩ := hR
    refine ⟨_, rfl, ?_⟩
    simp only [Act.put, List.setIfInBounds_toArray, List.set_cons_zero, List.set_cons_succ]
    have K20 := Lib.hid (K16.out.below hb)
    have K21 := Lib.hid (K17.out.below hb)
    have B22 := Lib.hid (B18.out.call hb)
    clear hb
    refine Segs.WL.val (some 39) (.bool false) W19 rfl (by kernel_rfl) (by kernel_rfl) ?_
    simp only [Act.put, List.setIfInBounds_toArray, List.set_cons_zero, List.set_cons_succ]
    refine Segs.WL.val (some 40) (.bool false) W19 rfl (by kernel_rfl) (by kernel_rfl) ?_
    simp only [Act.put, List.setIfInBounds_toArray, List.set_cons_zero, List.set_cons_succ]
    refine Segs.WL.val (some 41) (.bool false) W19 rfl (by kernel_rfl) (by kernel_rfl) ?_
    simp only [Act.put, List.setIfInBounds_toArray, List.set_cons_zero, List.set_cons_succ]
    refine Segs.WL.val (some 42) (.agg CM) W19 rfl (by kernel_rfl) (Segs.run_row 25 (.tmp 4) rfl (w.heap.size + 1) (by kernel_rfl) 25 CM _ K21.out Tryd.underlying25 rfl (info19 (NCM.out.size))) ?_
    simp only [Act.put, List.setIfInBounds_toArray, List.set_cons_zero, List.set_cons_succ]
    refine Segs.WL.call (some 43) 12 #[.agg CM] _ rfl (by kernel_rfl) (by kernel_rfl) (VM.out W19 (LA.out _ B22.out.1).err) (fun e W23 hR => ?_)
    obtain ⟨rfl, hb⟩ := hR
    refine ⟨_, rfl, ?_⟩
    simp only [Act.put, List.setIfInBounds_toArray, List.set_cons_zero, List.set_cons_succ]
    have K24 := Lib.hid (K20.out.below hb)
    have K25 := Lib.hid (K21.out.below hb)
    have B26 := Lib.hid (B22.out.call hb)
    clear hb
    refine Segs.WL.val (some 44) (.bool false) W23 rfl (by kernel_rfl) (by kernel_rfl) ?_
    simp only [Act.put, List.setIfInBounds_toArray, List.set_cons_zero, List.set_cons_succ]
    refine Segs.WL.val (some 45) (.bool false) W23 rfl (by kernel_rfl) (by kernel_rfl) ?_
    simp only [Act.put, List.setIfInBounds_toArray, List.set_cons_zero, List.set_cons_succ]
    refine Segs.WL.nil ?_
    go_upto_region 7 with (fail)
    refine wp_region_lit (Segs.WL.out ?_)
    refine Segs.WL.val (some 47) (.int .u8 (((p : Nat) : Int))) W23 rfl (by kernel_rfl) (by kernel_rfl) ?_
    simp only [Act.put, List.setIfInBounds_toArray, List.set_cons_zero, List.set_cons_succ]
    refine Segs.WL.val (some 48) (.int .i64 (((p : Nat) : Int))) W23 rfl (by kernel_rfl) (run_conv8 rfl p (by kernel_rfl) HP8.out) ?_
    simp only [Act.put, List.setIfInBounds_toArray, List.set_cons_zero, List.set_cons_succ]
    refine Segs.WL.val (some 49) (.int .i64 (((p % 16 : Nat) : Int))) W23 rfl (by kernel_rfl) (run_rem16 rfl p (by kernel_rfl)) ?_
    simp only [Act.put, List.setIfInBounds_toArray, List.set_cons_zero, List.set_cons_succ]
    refine Segs.WL.val (some 9) (.int .i64 (((p % 16 : Nat) : Int))) W23 rfl (by kernel_rfl) (by kernel_rfl) ?_
    simp only [Act.put, List.setIfInBounds_toArray, List.set_cons_zero, List.set_cons_succ]
    refine Segs.WL.nil ?_
    go_upto_region 8 with (fail)
    refine wp_region_lit (Segs.WL.out ?_)
    refine Segs.WL.val (some 50) (.int .i64 (((p % 16 : Nat) : Int))) W23 rfl (by kernel_rfl) (by kernel_rfl) ?_
    simp only [Act.put, List.setIfInBounds_toArray, List.set_cons_zero, List.set_cons_succ]
    refine Segs.WL.val (some 51) (.pointer (some ⟨w.heap.size, 3, none⟩)) W23 rfl (by kernel_rfl) (by kernel_rfl) ?_
    simp only [Act.put, List.setIfInBounds_toArray, List.set_cons_zero, List.set_cons_succ]
    refine Segs.WL.val (some 52) (.pointer (some ⟨w.heap.size, (3 + p % 16), none⟩)) W23 rfl (by kernel_rfl) (run_index16 rfl w.heap.size 3 (p % 16) (by kernel_rfl) (by kernel_rfl) (Nat.mod_lt _ (by decide))) ?_
    simp only [Act.put, List.setIfInBounds_toArray, List.set_cons_zero, List.set_cons_succ]
    refine Segs.WL.val (some 53) (.string RQ) W23 rfl (by kernel_rfl) (Segs.run_cell 9 (.tmp 52) rfl w.heap.size (3 + p % 16) (by kernel_rfl) _ (isAggS _) (by rw [K24.out.cell]; exact HRQ.out)) ?_
    simp only [Act.put, List.setIfInBounds_toArray, List.set_cons_zero, List.set_cons_succ]
    refine Segs.WL.val (some 54) (.bool !true) W23 rfl (by kernel_rfl) (run_nes rfl RQ ⟨#[]⟩ (by kernel_rfl) (by kernel_rfl) true (HRE.out)) ?_
    simp only [Act.put, List.setIfInBounds_toArray, List.set_cons_zero, List.set_cons_succ]
    refine Segs.WL.nil ?_
    go_upto_region 10 with (fail)
    refine wp_region_lit (Segs.WL.out ?_)
    refine Segs.WL.val (some 57) (.agg CM) W23 rfl (by kernel_rfl) (Segs.run_row 25 (.tmp 4) rfl (w.heap.size + 1) (by kernel_rfl) 25 CM _ K25.out Tryd.underlying25 rfl (info19 (NCM.out.size))) ?_
    simp only [Act.put, List.setIfInBounds_toArray, List.set_cons_zero, List.set_cons_succ]
    refine Segs.WL.call (some 58) 10 #[.agg CM] _ rfl (by kernel_rfl) (by kernel_rfl) (PM.out W23 (LA.out _ B26.out.1).err) (fun e W27 hR => ?_)
    obtain ⟨rfl, hb⟩ := hR
    refine ⟨_, rfl, ?_⟩
    simp only [Act.put, List.setIfInBounds_toArray, List.set_cons_zero, List.set_cons_succ]
    have K28 := Lib.hid (K24.out.below hb)
    have K29 := Lib.hid (K25.out.below hb)
    have B30 := Lib.hid (B26.out.call hb)
    clear hb
    refine Segs.WL.val (some 56) (.tuple #[.string T, .int .i64 0]) W27 rfl (by kernel_rfl) (by kernel_rfl) ?_
    simp only [Act.put, List.setIfInBounds_toArray, List.set_cons_zero, List.set_cons_succ]
    refine Segs.WL.val (some 59) (.string T) W27 rfl (by kernel_rfl) (by kernel_rfl) ?_
    simp only [Act.put, List.setIfInBounds_toArray, List.set_cons_zero, List.set_cons_succ]
    refine Segs.WL.val (some 60) (.int .i64 0) W27 rfl (by kernel_rfl) (by kernel_rfl) ?_
    simp only [Act.put, List.setIfInBounds_toArray, List.set_cons_zero, List.set_cons_succ]
    refine Segs.WL.val (some 10) (.string T) W27 rfl (by kernel_rfl) (by kernel_rfl) ?_
    simp only [Act.put, List.setIfInBounds_toArray, List.set_cons_zero, List.set_cons_succ]
    refine Segs.WL.val (some 11) (.int .i64 0) W27 rfl (by kernel_rfl) (by kernel_rfl) ?_
    simp only [Act.put, List.setIfInBounds_toArray, List.set_cons_zero, List.set_cons_succ]
    refine Segs.WL.nil ?_
    go_upto_region 11 with (fail)
    refine wp_region_lit (Segs.WL.out ?_)
    refine Segs.WL.val (some 61) (.agg CS) W27 rfl (by kernel_rfl) (Segs.run_row 25 (.tmp 3) rfl w.heap.size (by kernel_rfl) 25 CS _ K28.out Tryd.underlying25 rfl (info19 (NCS.out.size))) ?_
    simp only [Act.put, List.setIfInBounds_toArray, List.set_cons_zero, List.set_cons_succ]
    refine Segs.WL.call (some 62) 18 #[.agg CS] _ rfl (by kernel_rfl) (by kernel_rfl) (HHN.out W27 (LA.out _ B30.out.1).err) (fun e W31 hR => ?_)
    obtain ⟨v0, rfl, len0, hb⟩ := hR
    refine ⟨_, rfl, ?_⟩
    simp only [Act.put, List.setIfInBounds_toArray, List.set_cons_zero, List.set_cons_succ]
    have K32 := Lib.hid (K28.out.below hb)
    have K33 := Lib.hid (K29.out.below hb)
    have B34 := Lib.hid (B30.out.call hb)
    have LEN0 := Lib.hid len0
    clear len0
    clear hb
    refine Segs.WL.val (some 12) (v0) W31 rfl (by kernel_rfl) (by kernel_rfl) ?_
    simp only [Act.put, List.setIfInBounds_toArray, List.set_cons_zero, List.set_cons_succ]
    refine Segs.WL.nil ?_
    go_upto_region 12 with (fail)
    refine wp_region_lit (Segs.WL.out ?_)
    refine Segs.WL.val (some 63) (.int .i64 (((p % 16 : Nat) : Int))) W31 rfl (by kernel_rfl) (by kernel_rfl) ?_
    simp only [Act.put, List.setIfInBounds_toArray, List.set_cons_zero, List.set_cons_succ]
    refine Segs.WL.val (some 64) (.string T) W31 rfl (by kernel_rfl) (by kernel_rfl) ?_
    simp only [Act.put, List.setIfInBounds_toArray, List.set_cons_zero, List.set_cons_succ]
    refine Segs.WL.call (some 65) 13 #[.string T] _ rfl (by kernel_rfl) (by kernel_rfl) (REFT.out W31 (LA.out _ B34.out.1).sha) (fun e W35 hR => ?_)
    obtain ⟨rfl, hb⟩ := hR
    refine ⟨_, rfl, ?_⟩
    simp only [Act.put, List.setIfInBounds_toArray, List.set_cons_zero, List.set_cons_succ]
    have K36 := Lib.hid (K32.out.below hb)
    have K37 := Lib.hid (K33.out.below hb)
    have B38 := Lib.hid (B34.out.call hb)
    clear hb
    refine Segs.WL.val (some 66) (.pointer (some ⟨w.heap.size, 3, none⟩)) W35 rfl (by kernel_rfl) (by kernel_rfl) ?_
    simp only [Act.put, List.setIfInBounds_toArray, List.set_cons_zero, List.set_cons_succ]
    refine Segs.WL.val (some 67) (.pointer (some ⟨w.heap.size, (3 + p % 16), none⟩)) W35 rfl (by kernel_rfl) (run_index16 rfl w.heap.size 3 (p % 16) (by kernel_rfl) (by kernel_rfl) (Nat.mod_lt _ (by decide))) ?_
    simp only [Act.put, List.setIfInBounds_toArray, List.set_cons_zero, List.set_cons_succ]
    have K40 := Lib.hid (by have := K36.out.set (3 + p % 16) (.string A); rw [CSG.out] at this; exact this : Blk (W35.setCell ⟨w.heap.size, (3 + p % 16), none⟩ (.string A)) w.heap.size 25 CG)
    have K41 := Lib.hid (K37.out.other (p := ⟨w.heap.size, (3 + p % 16), none⟩) (by simp) (.string A))
    have B42 := Lib.hid (B38.out.setCell (p := ⟨w.heap.size, (3 + p % 16), none⟩) (by simp) (.string A))
    refine Segs.WL.skip (W35.setCell ⟨w.heap.size, (3 + p % 16), none⟩ (.string A)) rfl (by kernel_rfl) (Segs.run_storeCell rfl w.heap.size (3 + p % 16) (.string A) (.string RQ) (by kernel_rfl) (by kernel_rfl) rfl (by kernel_rfl) (by rw [K36.out.cell]; exact HRQ.out) (K36.out.frozen _)) ?_
    generalize W35.setCell ⟨w.heap.size, (3 + p % 16), none⟩ (.string A) = W39 at K40 K41 B42 ⊢
    refine Segs.WL.nil ?_
    go_upto_region 13 with (fail)
    refine wp_region_lit (Segs.WL.out ?_)
    refine Segs.WL.val (some 68) (.agg CG) W39 rfl (by kernel_rfl) (Segs.run_row 25 (.tmp 3) rfl w.heap.size (by kernel_rfl) 25 CG _ K40.out Tryd.underlying25 rfl (info19 (NCG.out.size))) ?_
    simp only [Act.put, List.setIfInBounds_toArray, List.set_cons_zero, List.set_cons_succ]
    refine Segs.WL.call (some 69) 18 #[.agg CG] _ rfl (by kernel_rfl) (by kernel_rfl) (HHG.out W39 (LA.out _ B42.out.1).err) (fun e W43 hR => ?_)
    obtain ⟨v1, rfl, len1, hb⟩ := hR
    refine ⟨_, rfl, ?_⟩
    simp only [Act.put, List.setIfInBounds_toArray, List.set_cons_zero, List.set_cons_succ]
    have K44 := Lib.hid (K40.out.below hb)
    have K45 := Lib.hid (K41.out.below hb)
    have B46 := Lib.hid (B42.out.call hb)
    have LEN1 := Lib.hid len1
    clear len1
    clear hb
    refine Segs.WL.val (some 13) (v1) W43 rfl (by kernel_rfl) (by kernel_rfl) ?_
    simp only [Act.put, List.setIfInBounds_toArray, List.set_cons_zero, List.set_cons_succ]
    refine Segs.WL.nil ?_
    go_upto_region 14 with (fail)
    refine wp_region_lit (Segs.WL.out ?_)
    refine Segs.WL.val (some 14) (.int .i64 1) W43 rfl (by kernel_rfl) (by kernel_rfl) ?_
    simp only [Act.put, List.setIfInBounds_toArray, List.set_cons_zero, List.set_cons_succ]
    refine Segs.WL.nil ?_
    go_upto_region 15 with (fail)
    refine wp_region_lit (Segs.WL.out ?_)
    refine Segs.WL.val (some 70) (.string T) W43 rfl (by kernel_rfl) (by kernel_rfl) ?_
    simp only [Act.put, List.setIfInBounds_toArray, List.set_cons_zero, List.set_cons_succ]
    refine Segs.WL.val (some 71) (.int .i64 ((T.size : Int))) W43 rfl (by kernel_rfl) (by kernel_rfl) ?_
    simp only [Act.put, List.setIfInBounds_toArray, List.set_cons_zero, List.set_cons_succ]
    refine Segs.WL.val (some 72) (.bool (decide ((T.size : Int) < (32 : Int)))) W43 rfl (by kernel_rfl) (by kernel_rfl) ?_
    simp only [Act.put, List.setIfInBounds_toArray, List.set_cons_zero, List.set_cons_succ]
    rw [HLT.out]
    refine Segs.WL.nil ?_
    go_upto_region 16 with (fail)
    refine wp_region_lit (Segs.WL.out ?_)
    refine Segs.WL.val (some 73) (.agg CM) W43 rfl (by kernel_rfl) (Segs.run_row 25 (.tmp 4) rfl (w.heap.size + 1) (by kernel_rfl) 25 CM _ K45.out Tryd.underlying25 rfl (info19 (NCM.out.size))) ?_
    simp only [Act.put, List.setIfInBounds_toArray, List.set_cons_zero, List.set_cons_succ]
    refine Segs.WL.call (some 74) 18 #[.agg CM] _ rfl (by kernel_rfl) (by kernel_rfl) (HHM.out W43 (LA.out _ B46.out.1).err) (fun e W47 hR => ?_)
    obtain ⟨v2, rfl, len2, hb⟩ := hR
    refine ⟨_, rfl, ?_⟩
    simp only [Act.put, List.setIfInBounds_toArray, List.set_cons_zero, List.set_cons_succ]
    have K48 := Lib.hid (K44.out.below hb)
    have K49 := Lib.hid (K45.out.below hb)
    have B50 := Lib.hid (B46.out.call hb)
    have LEN2 := Lib.hid len2
    clear len2
    clear hb
    refine Segs.WL.val (some 75) (.int .i64 ((n1 : Int))) W47 rfl (by kernel_rfl) (LEN2.out _ _ _ _ rfl (by kernel_rfl)) ?_
    simp only [Act.put, List.setIfInBounds_toArray, List.set_cons_zero, List.set_cons_succ]
    refine Segs.WL.val (some 14) (.int .i64 ((n1 : Int))) W47 rfl (by kernel_rfl) (by kernel_rfl) ?_
    simp only [Act.put, List.setIfInBounds_toArray, List.set_cons_zero, List.set_cons_succ]
    refine Segs.WL.nil ?_
    go_upto_region 17 with (fail)
    refine wp_region_lit (Segs.WL.out ?_)
    refine Segs.WL.val (some 76) (.bool true) W47 rfl (by kernel_rfl) (by kernel_rfl) ?_
    simp only [Act.put, List.setIfInBounds_toArray, List.set_cons_zero, List.set_cons_succ]
    refine Segs.WL.val (some 77) (.bool true) W47 rfl (by kernel_rfl) (by kernel_rfl) ?_
    simp only [Act.put, List.setIfInBounds_toArray, List.set_cons_zero, List.set_cons_succ]
    refine Segs.WL.val (some 78) (.agg CG) W47 rfl (by kernel_rfl) (Segs.run_row 25 (.tmp 3) rfl w.heap.size (by kernel_rfl) 25 CG _ K48.out Tryd.underlying25 rfl (info19 (NCG.out.size))) ?_
    simp only [Act.put, List.setIfInBounds_toArray, List.set_cons_zero, List.set_cons_succ]
    refine Segs.WL.call (some 79) 12 #[.agg CG] _ rfl (by kernel_rfl) (by kernel_rfl) (VG.out W47 (LA.out _ B50.out.1).err) (fun e W51 hR => ?_)
    obtain ⟨rfl, hb⟩ := hR
    refine ⟨_, rfl, ?_⟩
    simp only [Act.put, List.setIfInBounds_toArray, List.set_cons_zero, List.set_cons_succ]
    have K52 := Lib.hid (K48.out.below hb)
    have K53 := Lib.hid (K49.out.below hb)
    have B54 := Lib.hid (B50.out.call hb)
    clear hb
    refine Segs.WL.val (some 80) (.bool true) W51 rfl (by kernel_rfl) (by kernel_rfl) ?_
    simp only [Act.put, List.setIfInBounds_toArray, List.set_cons_zero, List.set_cons_succ]
    refine Segs.WL.val (some 81) (.bool true) W51 rfl (by kernel_rfl) (by kernel_rfl) ?_
    simp only [Act.put, List.setIfInBounds_toArray, List.set_cons_zero, List.set_cons_succ]
    refine Segs.WL.val (some 82) (v1) W51 rfl (by kernel_rfl) (by kernel_rfl) ?_
    simp only [Act.put, List.setIfInBounds_toArray, List.set_cons_zero, List.set_cons_succ]
    refine Segs.WL.val (some 83) (.int .i64 (((n0 + n1 : Nat) : Int))) W51 rfl (by kernel_rfl) (LEN1.out _ _ _ _ rfl (by kernel_rfl)) ?_
    simp only [Act.put, List.setIfInBounds_toArray, List.set_cons_zero, List.set_cons_succ]
    refine Segs.WL.val (some 84) (v0) W51 rfl (by kernel_rfl) (by kernel_rfl) ?_
    simp only [Act.put, List.setIfInBounds_toArray, List.set_cons_zero, List.set_cons_succ]
    refine Segs.WL.val (some 85) (.int .i64 ((n0 : Int))) W51 rfl (by kernel_rfl) (LEN0.out _ _ _ _ rfl (by kernel_rfl)) ?_
    simp only [Act.put, List.setIfInBounds_toArray, List.set_cons_zero, List.set_cons_succ]
    refine Segs.WL.val (some 86) (.int .i64 ((n1 : Int))) W51 rfl (by kernel_rfl) (by kernel_rfl) ?_
    simp only [Act.put, List.setIfInBounds_toArray, List.set_cons_zero, List.set_cons_succ]
    refine Segs.WL.val (some 87) (.int .i64 (((n0 + n1 : Nat) : Int))) W51 rfl (by kernel_rfl) (run_addn rfl n0 n1 (by kernel_rfl) (by kernel_rfl) HL0.out HL1.out) ?_
    simp only [Act.put, List.setIfInBounds_toArray, List.set_cons_zero, List.set_cons_succ]
    refine Segs.WL.val (some 88) (.bool true) W51 rfl (by kernel_rfl) (run_eqi rfl _ _ (by kernel_rfl) (by kernel_rfl) true DEQ.out) ?_
    simp only [Act.put, List.setIfInBounds_toArray, List.set_cons_zero, List.set_cons_succ]
    refine Segs.WL.val (some 89) (.bool true) W51 rfl (by kernel_rfl) (by kernel_rfl) ?_
    simp only [Act.put, List.setIfInBounds_toArray, List.set_cons_zero, List.set_cons_succ]
    refine Segs.WL.val (some 6) (.bool true) W51 rfl (by kernel_rfl) (by kernel_rfl) ?_
    simp only [Act.put, List.setIfInBounds_toArray, List.set_cons_zero, List.set_cons_succ]
    refine Segs.WL.nil ?_
    go_wp2_with fail
    go_ret
    exact ⟨rfl, B54.out.1⟩
  · skip
    have HLT := Lib.hid (show decide (((bytesB a1).size : Int) < (32 : Int)) = false by simp; omega)
    rw [if_neg hs] at hhg
    obtain ⟨A, hA⟩ : ∃ z, z = refB (bytesB a1) := ⟨_, rfl⟩
    obtain ⟨T, hT⟩ : ∃ z, z = bytesB a1 := ⟨_, rfl⟩
    rw [← hA] at reft scs
    rw [← hT] at putm reft HLT
    obtain ⟨n0, hn0⟩ : ∃ z, z = (hashes a0).length := ⟨_, rfl⟩
    obtain ⟨n1, hn1⟩ : ∃ z, z = (hashes a1).length := ⟨_, rfl⟩
    rw [← hn0] at hhn hhg HL0
    rw [← hn1] at hhm HL1
    have DEQ := Lib.hid (show decide (((n0 + 1 : Nat) : Int) = ((n0 + 1 : Nat) : Int)) = true from decide_eq_true rfl)
    have PM := Lib.hid putm
    have REFT := Lib.hid reft
    have HHN := Lib.hid hhn
    have HHM := Lib.hid hhm
    have HHG := Lib.hid hhg
    have VG := Lib.hid vg
    have CSG := Lib.hid scs
    clear hl fewn fewm hCS hCM hZ0 hfn w0 w1 h16 g16 vn vm putn putm hk hk' w2 hp hfm hk00 hk10 hvn hvm hRQ he he' hm0 h3 hi reft gv hgr s16 hhn hhm hhg vg scs l0 l1 hCG bz' hs hA hT hn0 hn1
    have B0 := Lib.hid (Bl.start w)
    have K1 := Lib.hid (by have := Blk.new (w) 25 CS; simpa using this : Blk ((w).alloc (.cells CS 25)) w.heap.size 25 CS)
    have B2 := Lib.hid (B0.out.alloc (.cells CS 25))
    have K3 := Lib.hid (K1.out.alloc (.cells CM 25))
    have K4 := Lib.hid (by have := Blk.new (w.alloc (.cells CS 25)) 25 CM; simpa using this : Blk ((w.alloc (.cells CS 25)).alloc (.cells CM 25)) (w.heap.size + 1) 25 CM)
    have B5 := Lib.hid (B2.out.alloc (.cells CM 25))
    go_enter Tryd.func7, Tryd.ntmps7
    go_upto_region 1 with (fail)
    generalize (w.alloc (.cells CS 25)).alloc (.cells CM 25) = W6 at K3 K4 B5 ⊢
    refine wp_region_lit (Segs.WL.out ?_)
    refine Segs.WL.call (some 15) 8 #[] _ rfl (by kernel_rfl) (by kernel_rfl) (WK.out W6 (LA.out _ B5.out.1)) (fun e W7 hR => ?_)
    obtain ⟨rfl, hb⟩ := hR
    refine ⟨_, rfl, ?_⟩
    simp only [Act.put, List.setIfInBounds_toArray, List.set_cons_zero, List.set_cons_succ]
    have K8 := Lib.hid (K3.out.below hb)
    have K9 := Lib.hid (K4.out.below hb)
    have B10 := Lib.hid (B5.out.call hb)
    clear hb
    refine Segs.WL.val (some 7) (.bool true) W7 rfl (by kernel_rfl) (by kernel_rfl) ?_
    simp only [Act.put, List.setIfInBounds_toArray, List.set_cons_zero, List.set_cons_succ]
    refine Segs.WL.nil ?_
    go_upto_region 2 with (fail)
    refine wp_region_lit (Segs.WL.out ?_)
    refine Segs.WL.val (some 16) (.bool true) W7 rfl (by kernel_rfl) (by kernel_rfl) ?_
    simp only [Act.put, List.setIfInBounds_toArray, List.set_cons_zero, List.set_cons_succ]
    refine Segs.WL.val (some 17) (.bool false) W7 rfl (by kernel_rfl) (by kernel_rfl) ?_
    simp only [Act.put, List.setIfInBounds_toArray, List.set_cons_zero, List.set_cons_succ]
    refine Segs.WL.nil ?_
    go_upto_region 4 with (fail)
    refine wp_region_lit (Segs.WL.out ?_)
    refine Segs.WL.val (some 18) (.agg CS) W7 rfl (by kernel_rfl) (Segs.run_row 25 (.tmp 3) rfl w.heap.size (by kernel_rfl) 25 CS _ K8.out Tryd.underlying25 rfl (info19 (NCS.out.size))) ?_
    simp only [Act.put, List.setIfInBounds_toArray, List.set_cons_zero, List.set_cons_succ]
    refine Segs.WL.call (some 19) 9 #[.agg CS] _ rfl (by kernel_rfl) (by kernel_rfl) (FEWN.out W7) (fun e W11 hR => ?_)
    obtain ⟨rfl, hb⟩ := hR
    refine ⟨_, rfl, ?_⟩
    simp only [Act.put, List.setIfInBounds_toArray, List.set_cons_zero, List.set_cons_succ]
    have K12 := Lib.hid (K8.out.below hb)
    have K13 := Lib.hid (K9.out.below hb)
    have B14 := Lib.hid (B10.out.call hb)
    clear hb
    refine Segs.WL.val (some 20) (.bool true) W11 rfl (by kernel_rfl) (by kernel_rfl) ?_
    simp only [Act.put, List.setIfInBounds_toArray, List.set_cons_zero, List.set_cons_succ]
    refine Segs.WL.val (some 21) (.agg CM) W11 rfl (by kernel_rfl) (Segs.run_row 25 (.tmp 4) rfl (w.heap.size + 1) (by kernel_rfl) 25 CM _ K13.out Tryd.underlying25 rfl (info19 (NCM.out.size))) ?_
    simp only [Act.put, List.setIfInBounds_toArray, List.set_cons_zero, List.set_cons_succ]
    refine Segs.WL.call (some 22) 9 #[.agg CM] _ rfl (by kernel_rfl) (by kernel_rfl) (FEWM.out W11) (fun e W15 hR => ?_)
    obtain ⟨rfl, hb⟩ := hR
    refine ⟨_, rfl, ?_⟩
    simp only [Act.put, List.setIfInBounds_toArray, List.set_cons_zero, List.set_cons_succ]
    have K16 := Lib.hid (K12.out.below hb)
    have K17 := Lib.hid (K13.out.below hb)
    have B18 := Lib.hid (B14.out.call hb)
    clear hb
    refine Segs.WL.val (some 23) (.bool true) W15 rfl (by kernel_rfl) (by kernel_rfl) ?_
    simp only [Act.put, List.setIfInBounds_toArray, List.set_cons_zero, List.set_cons_succ]
    refine Segs.WL.val (some 8) (.bool true) W15 rfl (by kernel_rfl) (by kernel_rfl) ?_
    simp only [Act.put, List.setIfInBounds_toArray, List.set_cons_zero, List.set_cons_succ]
    refine Segs.WL.nil ?_
    go_upto_region 5 with (fail)
    refine wp_region_lit (Segs.WL.out ?_)
    refine Segs.WL.val (some 24) (.bool true) W15 rfl (by kernel_rfl) (by kernel_rfl) ?_
    simp only [Act.put, List.setIfInBounds_toArray, List.set_cons_zero, List.set_cons_succ]
    refine Segs.WL.val (some 25) (.bool false) W15 rfl (by kernel_rfl) (by kernel_rfl) ?_
    simp only [Act.put, List.setIfInBounds_toArray, List.set_cons_zero, List.set_cons_succ]
    refine Segs.WL.val (some 26) (.bool false) W15 rfl (by kernel_rfl) (by kernel_rfl) ?_
    simp only [Act.put, List.setIfInBounds_toArray, List.set_cons_zero, List.set_cons_succ]
    refine Segs.WL.val (some 27) (.pointer (some ⟨w.heap.size, 0, none⟩)) W15 rfl (by kernel_rfl) (by kernel_rfl) ?_
    simp only [Act.put, List.setIfInBounds_toArray, List.set_cons_zero, List.set_cons_succ]
    refine Segs.WL.val (some 28) (.int .i64 k0) W15 rfl (by kernel_rfl) (Segs.run_cell 22 (.tmp 27) rfl w.heap.size 0 (by kernel_rfl) _ (isAggKind _) (by rw [K16.out.cell]; exact HK0.out)) ?_
    simp only [Act.put, List.setIfInBounds_toArray, List.set_cons_zero, List.set_cons_succ]
    refine Segs.WL.val (some 29) (.bool (!decide (k0 = 3))) W15 rfl (by kernel_rfl) (by kernel_rfl) ?_
    simp only [Act.put, List.setIfInBounds_toArray, List.set_cons_zero, List.set_cons_succ]
    rw [DK0.out]
    refine Segs.WL.val (some 30) (.bool false) W15 rfl (by kernel_rfl) (by kernel_rfl) ?_
    simp only [Act.put, List.setIfInBounds_toArray, List.set_cons_zero, List.set_cons_succ]
    refine Segs.WL.val (some 31) (.bool false) W15 rfl (by kernel_rfl) (by kernel_rfl) ?_
    simp only [Act.put, List.setIfInBounds_toArray, List.set_cons_zero, List.set_cons_succ]
    refine Segs.WL.val (some 32) (.pointer (some ⟨(w.heap.size + 1), 0, none⟩)) W15 rfl (by kernel_rfl) (by kernel_rfl) ?_
    simp only [Act.put, List.setIfInBounds_toArray, List.set_cons_zero, List.set_cons_succ]
    refine Segs.WL.val (some 33) (.int .i64 k1) W15 rfl (by kernel_rfl) (Segs.run_cell 22 (.tmp 32) rfl (w.heap.size + 1) 0 (by kernel_rfl) _ (isAggKind _) (by rw [K17.out.cell]; exact HK1.out)) ?_
    simp only [Act.put, List.setIfInBounds_toArray, List.set_cons_zero, List.set_cons_succ]
    refine Segs.WL.val (some 34) (.bool (decide (k1 = 0))) W15 rfl (by kernel_rfl) (by kernel_rfl) ?_
    simp only [Act.put, List.setIfInBounds_toArray, List.set_cons_zero, List.set_cons_succ]
    rw [DK1.out]
    refine Segs.WL.val (some 35) (.bool false) W15 rfl (by kernel_rfl) (by kernel_rfl) ?_
    simp only [Act.put, List.setIfInBounds_toArray, List.set_cons_zero, List.set_cons_succ]
    refine Segs.WL.val (some 36) (.bool false) W15 rfl (by kernel_rfl) (by kernel_rfl) ?_
    simp only [Act.put, List.setIfInBounds_toArray, List.set_cons_zero, List.set_cons_succ]
    refine Segs.WL.val (some 37) (.agg CS) W15 rfl (by kernel_rfl) (Segs.run_row 25 (.tmp 3) rfl w.heap.size (by kernel_rfl) 25 CS _ K16.out Tryd.underlying25 rfl (info19 (NCS.out.size))) ?_
    simp only [Act.put, List.setIfInBounds_toArray, List.set_cons_zero, List.set_cons_succ]
    refine Segs.WL.call (some 38) 12 #[.agg CS] _ rfl (by kernel_rfl) (by kernel_rfl) (VN.out W15 (LA.out _ B18.out.1).err) (fun e W19 hR => ?_)
    obtain ⟨rfl, hb⟩ := hR
    refine ⟨_, rfl, ?_⟩
    simp only [Act.put, List.setIfInBounds_toArray, List.set_cons_zero, List.set_cons_succ]
    have K20 := Lib.hid (K16.out.below hb)
    have K21 := Lib.hid (K17.out.below hb)
    have B22 := Lib.hid (B18.out.call hb)
    clear hb
    refine Segs.WL.val (some 39) (.bool false) W19 rfl (by kernel_rfl) (by kernel_rfl) ?_
    simp only [Act.put, List.setIfInBounds_toArray, List.set_cons_zero, List.set_cons_succ]
    refine Segs.WL.val (some 40) (.bool false) W19 rfl (by kernel_rfl) (by kernel_rfl) ?_
    simp only [Act.put, List.setIfInBounds_toArray, List.set_cons_zero, List.set_cons_succ]
    refine Segs.WL.val (some 41) (.bool false) W19 rfl (by kernel_rfl) (by kernel_rfl) ?_
    simp only [Act.put, List.setIfInBounds_toArray, List.set_cons_zero, List.set_cons_succ]
    refine Segs.WL.val (some 42) (.agg CM) W19 rfl (by kernel_rfl) (Segs.run_row 25 (.tmp 4) rfl (w.heap.size + 1) (by kernel_rfl) 25 CM _ K21.out Tryd.underlying25 rfl (info19 (NCM.out.size))) ?_
    simp only [Act.put, List.setIfInBounds_toArray, List.set_cons_zero, List.set_cons_succ]
    refine Segs.WL.call (some 43) 12 #[.agg CM] _ rfl (by kernel_rfl) (by kernel_rfl) (VM.out W19 (LA.out _ B22.out.1).err) (fun e W23 hR => ?_)
    obtain ⟨rfl, hb⟩ := hR
    refine ⟨_, rfl, ?_⟩
    simp only [Act.put, List.setIfInBounds_toArray, List.set_cons_zero, List.set_cons_succ]
    have K24 := Lib.hid (K20.out.below hb)
    have K25 := Lib.hid (K21.out.below hb)
    have B26 := Lib.hid (B22.out.call hb)
    clear hb
    refine Segs.WL.val (some 44) (.bool false) W23 rfl (by kernel_rfl) (by kernel_rfl) ?_
    simp only [Act.put, List.setIfInBounds_toArray, List.set_cons_zero, List.set_cons_succ]
    refine Segs.WL.val (some 45) (.bool false) W23 rfl (by kernel_rfl) (by kernel_rfl) ?_
    simp only [Act.put, List.setIfInBounds_toArray, List.set_cons_zero, List.set_cons_succ]
    refine Segs.WL.nil ?_
    go_upto_region 7 with (fail)
    refine wp_region_lit (Segs.WL.out ?_)
    refine Segs.WL.val (some 47) (.int .u8 (((p : Nat) : Int))) W23 rfl (by kernel_rfl) (by kernel_rfl) ?_
    simp only [Act.put, List.setIfInBounds_toArray, List.set_cons_zero, List.set_cons_succ]
    refine Segs.WL.val (some 48) (.int .i64 (((p : Nat) : Int))) W23 rfl (by kernel_rfl) (run_conv8 rfl p (by kernel_rfl) HP8.out) ?_
    simp only [Act.put, List.setIfInBounds_toArray, List.set_cons_zero, List.set_cons_succ]
    refine Segs.WL.val (some 49) (.int .i64 (((p % 16 : Nat) : Int))) W23 rfl (by kernel_rfl) (run_rem16 rfl p (by kernel_rfl)) ?_
    simp only [Act.put, List.setIfInBounds_toArray, List.set_cons_zero, List.set_cons_succ]
    refine Segs.WL.val (some 9) (.int .i64 (((p % 16 : Nat) : Int))) W23 rfl (by kernel_rfl) (by kernel_rfl) ?_
    simp only [Act.put, List.setIfInBounds_toArray, List.set_cons_zero, List.set_cons_succ]
    refine Segs.WL.nil ?_
    go_upto_region 8 with (fail)
    refine wp_region_lit (Segs.WL.out ?_)
    refine Segs.WL.val (some 50) (.int .i64 (((p % 16 : Nat) : Int))) W23 rfl (by kernel_rfl) (by kernel_rfl) ?_
    simp only [Act.put, List.setIfInBounds_toArray, List.set_cons_zero, List.set_cons_succ]
    refine Segs.WL.val (some 51) (.pointer (some ⟨w.heap.size, 3, none⟩)) W23 rfl (by kernel_rfl) (by kernel_rfl) ?_
    simp only [Act.put, List.setIfInBounds_toArray, List.set_cons_zero, List.set_cons_succ]
    refine Segs.WL.val (some 52) (.pointer (some ⟨w.heap.size, (3 + p % 16), none⟩)) W23 rfl (by kernel_rfl) (run_index16 rfl w.heap.size 3 (p % 16) (by kernel_rfl) (by kernel_rfl) (Nat.mod_lt _ (by decide))) ?_
    simp only [Act.put, List.setIfInBounds_toArray, List.set_cons_zero, List.set_cons_succ]
    refine Segs.WL.val (some 53) (.string RQ) W23 rfl (by kernel_rfl) (Segs.run_cell 9 (.tmp 52) rfl w.heap.size (3 + p % 16) (by kernel_rfl) _ (isAggS _) (by rw [K24.out.cell]; exact HRQ.out)) ?_
    simp only [Act.put, List.setIfInBounds_toArray, List.set_cons_zero, List.set_cons_succ]
    refine Segs.WL.val (some 54) (.bool !true) W23 rfl (by kernel_rfl) (run_nes rfl RQ ⟨#[]⟩ (by kernel_rfl) (by kernel_rfl) true (HRE.out)) ?_
    simp only [Act.put, List.setIfInBounds_toArray, List.set_cons_zero, List.set_cons_succ]
    refine Segs.WL.nil ?_
    go_upto_region 10 with (fail)
    refine wp_region_lit (Segs.WL.out ?_)
    refine Segs.WL.val (some 57) (.agg CM) W23 rfl (by kernel_rfl) (Segs.run_row 25 (.tmp 4) rfl (w.heap.size + 1) (by kernel_rfl) 25 CM _ K25.out Tryd.underlying25 rfl (info19 (NCM.out.size))) ?_
    simp only [Act.put, List.setIfInBounds_toArray, List.set_cons_zero, List.set_cons_succ]
    refine Segs.WL.call (some 58) 10 #[.agg CM] _ rfl (by kernel_rfl) (by kernel_rfl) (PM.out W23 (LA.out _ B26.out.1).err) (fun e W27 hR => ?_)
    obtain ⟨rfl, hb⟩ := hR
    refine ⟨_, rfl, ?_⟩
    simp only [Act.put, List.setIfInBounds_toArray, List.set_cons_zero, List.set_cons_succ]
    have K28 := Lib.hid (K24.out.below hb)
    have K29 := Lib.hid (K25.out.below hb)
    have B30 := Lib.hid (B26.out.call hb)
    clear hb
    refine Segs.WL.val (some 56) (.tuple #[.string T, .int .i64 0]) W27 rfl (by kernel_rfl) (by kernel_rfl) ?_
    simp only [Act.put, List.setIfInBounds_toArray, List.set_cons_zero, List.set_cons_succ]
    refine Segs.WL.val (some 59) (.string T) W27 rfl (by kernel_rfl) (by kernel_rfl) ?_
    simp only [Act.put, List.setIfInBounds_toArray, List.set_cons_zero, List.set_cons_succ]
    refine Segs.WL.val (some 60) (.int .i64 0) W27 rfl (by kernel_rfl) (by kernel_rfl) ?_
    simp only [Act.put, List.setIfInBounds_toArray, List.set_cons_zero, List.set_cons_succ]
    refine Segs.WL.val (some 10) (.string T) W27 rfl (by kernel_rfl) (by kernel_rfl) ?_
    simp only [Act.put, List.setIfInBounds_toArray, List.set_cons_zero, List.set_cons_succ]
    refine Segs.WL.val (some 11) (.int .i64 0) W27 rfl (by kernel_rfl) (by kernel_rfl) ?_
    simp only [Act.put, List.setIfInBounds_toArray, List.set_cons_zero, List.set_cons_succ]
    refine Segs.WL.nil ?_
    go_upto_region 11 with (fail)
    refine wp_region_lit (Segs.WL.out ?_)
    refine Segs.WL.val (some 61) (.agg CS) W27 rfl (by kernel_rfl) (Segs.run_row 25 (.tmp 3) rfl w.heap.size (by kernel_rfl) 25 CS _ K28.out Tryd.underlying25 rfl (info19 (NCS.out.size))) ?_
    simp only [Act.put, List.setIfInBounds_toArray, List.set_cons_zero, List.set_cons_succ]
    refine Segs.WL.call (some 62) 18 #[.agg CS] _ rfl (by kernel_rfl) (by kernel_rfl) (HHN.out W27 (LA.out _ B30.out.1).err) (fun e W31 hR => ?_)
    obtain ⟨v0, rfl, len0, hb⟩ := hR
    refine ⟨_, rfl, ?_⟩
    simp only [Act.put, List.setIfInBounds_toArray, List.set_cons_zero, List.set_cons_succ]
    have K32 := Lib.hid (K28.out.below hb)
    have K33 := Lib.hid (K29.out.below hb)
    have B34 := Lib.hid (B30.out.call hb)
    have LEN0 := Lib.hid len0
    clear len0
    clear hb
    refine Segs.WL.val (some 12) (v0) W31 rfl (by kernel_rfl) (by kernel_rfl) ?_
    simp only [Act.put, List.setIfInBounds_toArray, List.set_cons_zero, List.set_cons_succ]
    refine Segs.WL.nil ?_
    go_upto_region 12 with (fail)
    refine wp_region_lit (Segs.WL.out ?_)
    refine Segs.WL.val (some 63) (.int .i64 (((p % 16 : Nat) : Int))) W31 rfl (by kernel_rfl) (by kernel_rfl) ?_
    simp only [Act.put, List.setIfInBounds_toArray, List.set_cons_zero, List.set_cons_succ]
    refine Segs.WL.val (some 64) (.string T) W31 rfl (by kernel_rfl) (by kernel_rfl) ?_
    simp only [Act.put, List.setIfInBounds_toArray, List.set_cons_zero, List.set_cons_succ]
    refine Segs.WL.call (some 65) 13 #[.string T] _ rfl (by kernel_rfl) (by kernel_rfl) (REFT.out W31 (LA.out _ B34.out.1).sha) (fun e W35 hR => ?_)
    obtain ⟨rfl, hb⟩ := hR
    refine ⟨_, rfl, ?_⟩
    simp only [Act.put, List.setIfInBounds_toArray, List.set_cons_zero, List.set_cons_succ]
    have K36 := Lib.hid (K32.out.below hb)
    have K37 := Lib.hid (K33.out.below hb)
    have B38 := Lib.hid (B34.out.call hb)
    clear hb
    refine Segs.WL.val (some 66) (.pointer (some ⟨w.heap.size, 3, none⟩)) W35 rfl (by kernel_rfl) (by kernel_rfl) ?_
    simp only [Act.put, List.setIfInBounds_toArray, List.set_cons_zero, List.set_cons_succ]
    refine Segs.WL.val (some 67) (.pointer (some ⟨w.heap.size, (3 + p % 16), none⟩)) W35 rfl (by kernel_rfl) (run_index16 rfl w.heap.size 3 (p % 16) (by kernel_rfl) (by kernel_rfl) (Nat.mod_lt _ (by decide))) ?_
    simp only [Act.put, List.setIfInBounds_toArray, List.set_cons_zero, List.set_cons_succ]
    have K40 := Lib.hid (by have := K36.out.set (3 + p % 16) (.string A); rw [CSG.out] at this; exact this : Blk (W35.setCell ⟨w.heap.size, (3 + p % 16), none⟩ (.string A)) w.heap.size 25 CG)
    have K41 := Lib.hid (K37.out.other (p := ⟨w.heap.size, (3 + p % 16), none⟩) (by simp) (.string A))
    have B42 := Lib.hid (B38.out.setCell (p := ⟨w.heap.size, (3 + p % 16), none⟩) (by simp) (.string A))
    refine Segs.WL.skip (W35.setCell ⟨w.heap.size, (3 + p % 16), none⟩ (.string A)) rfl (by kernel_rfl) (Segs.run_storeCell rfl w.heap.size (3 + p % 16) (.string A) (.string RQ) (by kernel_rfl) (by kernel_rfl) rfl (by kernel_rfl) (by rw [K36.out.cell]; exact HRQ.out) (K36.out.frozen _)) ?_
    generalize W35.setCell ⟨w.heap.size, (3 + p % 16), none⟩ (.string A) = W39 at K40 K41 B42 ⊢
    refine Segs.WL.nil ?_
    go_upto_region 13 with (fail)
    refine wp_region_lit (Segs.WL.out ?_)
    refine Segs.WL.val (some 68) (.agg CG) W39 rfl (by kernel_rfl) (Segs.run_row 25 (.tmp 3) rfl w.heap.size (by kernel_rfl) 25 CG _ K40.out Tryd.underlying25 rfl (info19 (NCG.out.size))) ?_
    simp only [Act.put, List.setIfInBounds_toArray, List.set_cons_zero, List.set_cons_succ]
    refine Segs.WL.call (some 69) 18 #[.agg CG] _ rfl (by kernel_rfl) (by kernel_rfl) (HHG.out W39 (LA.out _ B42.out.1).err) (fun e W43 hR => ?_)
    obtain ⟨v1, rfl, len1, hb⟩ := hR
    refine ⟨_, rfl, ?_⟩
    simp only [Act.put, List.setIfInBounds_toArray, List.set_cons_zero, List.set_cons_succ]
    have K44 := Lib.hid (K40.out.below hb)
    have K45 := Lib.hid (K41.out.below hb)
    have B46 := Lib.hid (B42.out.call hb)
    have LEN1 := Lib.hid len1
    clear len1
    clear hb
    refine Segs.WL.val (some 13) (v1) W43 rfl (by kernel_rfl) (by kernel_rfl) ?_
    simp only [Act.put, List.setIfInBounds_toArray, List.set_cons_zero, List.set_cons_succ]
    refine Segs.WL.nil ?_
    go_upto_region 14 with (fail)
    refine wp_region_lit (Segs.WL.out ?_)
    refine Segs.WL.val (some 14) (.int .i64 1) W43 rfl (by kernel_rfl) (by kernel_rfl) ?_
    simp only [Act.put, List.setIfInBounds_toArray, List.set_cons_zero, List.set_cons_succ]
    refine Segs.WL.nil ?_
    go_upto_region 15 with (fail)
    refine wp_region_lit (Segs.WL.out ?_)
    refine Segs.WL.val (some 70) (.string T) W43 rfl (by kernel_rfl) (by kernel_rfl) ?_
    simp only [Act.put, List.setIfInBounds_toArray, List.set_cons_zero, List.set_cons_succ]
    refine Segs.WL.val (some 71) (.int .i64 ((T.size : Int))) W43 rfl (by kernel_rfl) (by kernel_rfl) ?_
    simp only [Act.put, List.setIfInBounds_toArray, List.set_cons_zero, List.set_cons_succ]
    refine Segs.WL.val (some 72) (.bool (decide ((T.size : Int) < (32 : Int)))) W43 rfl (by kernel_rfl) (by kernel_rfl) ?_
    simp only [Act.put, List.setIfInBounds_toArray, List.set_cons_zero, List.set_cons_succ]
    rw [HLT.out]
    refine Segs.WL.nil ?_
    go_upto_region 17 with (fail)
    refine wp_region_lit (Segs.WL.out ?_)
    refine Segs.WL.val (some 76) (.bool true) W43 rfl (by kernel_rfl) (by kernel_rfl) ?_
    simp only [Act.put, List.setIfInBounds_toArray, List.set_cons_zero, List.set_cons_succ]
    refine Segs.WL.val (some 77) (.bool true) W43 rfl (by kernel_rfl) (by kernel_rfl) ?_
    simp only [Act.put, List.setIfInBounds_toArray, List.set_cons_zero, List.set_cons_succ]
    refine Segs.WL.val (some 78) (.agg CG) W43 rfl (by kernel_rfl) (Segs.run_row 25 (.tmp 3) rfl w.heap.size (by kernel_rfl) 25 CG _ K44.out Tryd.underlying25 rfl (info19 (NCG.out.size))) ?_
    simp only [Act.put, List.setIfInBounds_toArray, List.set_cons_zero, List.set_cons_succ]
    refine Segs.WL.call (some 79) 12 #[.agg CG] _ rfl (by kernel_rfl) (by kernel_rfl) (VG.out W43 (LA.out _ B46.out.1).err) (fun e W47 hR => ?_)
    obtain ⟨rfl, hb⟩ := hR
    refine ⟨_, rfl, ?_⟩
    simp only [Act.put, List.setIfInBounds_toArray, List.set_cons_zero, List.set_cons_succ]
    have K48 := Lib.hid (K44.out.below hb)
    have K49 := Lib.hid (K45.out.below hb)
    have B50 := Lib.hid (B46.out.call hb)
    clear hb
    refine Segs.WL.val (some 80) (.bool true) W47 rfl (by kernel_rfl) (by kernel_rfl) ?_
    simp only [Act.put, List.setIfInBounds_toArray, List.set_cons_zero, List.set_cons_succ]
    refine Segs.WL.val (some 81) (.bool true) W47 rfl (by kernel_rfl) (by kernel_rfl) ?_
    simp only [Act.put, List.setIfInBounds_toArray, List.set_cons_zero, List.set_cons_succ]
    refine Segs.WL.val (some 82) (v1) W47 rfl (by kernel_rfl) (by kernel_rfl) ?_
    simp only [Act.put, List.setIfInBounds_toArray, List.set_cons_zero, List.set_cons_succ]
    refine Segs.WL.val (some 83) (.int .i64 (((n0 + 1 : Nat) : Int))) W47 rfl (by kernel_rfl) (LEN1.out _ _ _ _ rfl (by kernel_rfl)) ?_
    simp only [Act.put, List.setIfInBounds_toArray, List.set_cons_zero, List.set_cons_succ]
    refine Segs.WL.val (some 84) (v0) W47 rfl (by kernel_rfl) (by kernel_rfl) ?_
    simp only [Act.put, List.setIfInBounds_toArray, List.set_cons_zero, List.set_cons_succ]
    refine Segs.WL.val (some 85) (.int .i64 ((n0 : Int))) W47 rfl (by kernel_rfl) (LEN0.out _ _ _ _ rfl (by kernel_rfl)) ?_
    simp only [Act.put, List.setIfInBounds_toArray, List.set_cons_zero, List.set_cons_succ]
    refine Segs.WL.val (some 86) (.int .i64 1) W47 rfl (by kernel_rfl) (by kernel_rfl) ?_
    simp only [Act.put, List.setIfInBounds_toArray, List.set_cons_zero, List.set_cons_succ]
    refine Segs.WL.val (some 87) (.int .i64 (((n0 + 1 : Nat) : Int))) W47 rfl (by kernel_rfl) (run_addn rfl n0 1 (by kernel_rfl) (by kernel_rfl) HL0.out HONE.out) ?_
    simp only [Act.put, List.setIfInBounds_toArray, List.set_cons_zero, List.set_cons_succ]
    refine Segs.WL.val (some 88) (.bool true) W47 rfl (by kernel_rfl) (run_eqi rfl _ _ (by kernel_rfl) (by kernel_rfl) true DEQ.out) ?_
    simp only [Act.put, List.setIfInBounds_toArray, List.set_cons_zero, List.set_cons_succ]
    refine Segs.WL.val (some 89) (.bool true) W47 rfl (by kernel_rfl) (by kernel_rfl) ?_
    simp only [Act.put, List.setIfInBounds_toArray, List.set_cons_zero, List.set_cons_succ]
    refine Segs.WL.val (some 6) (.bool true) W47 rfl (by kernel_rfl) (by kernel_rfl) ?_
    simp only [Act.put, List.setIfInBounds_toArray, List.set_cons_zero, List.set_cons_succ]
    refine Segs.WL.nil ?_
    go_wp2_with fail
    go_ret
    exact ⟨rfl, B50.out.1⟩
set_option maxRecDepth 100000 in
theorem lifted (os : Os) (started : os.Started) (H : Type) (enc : TypeId × Value → H) :
    ReturnsInHanded {} Tryd.checked os 7 .any (fun w args => (Rows.nodeGrowsSpec.pre enc Tryd.prog Tryd.f7 [] false w args ∧ laidMetH Tryd.prog Rows.nodeGrowsRow.laid w) ∧ sizedMet enc Tryd.prog Tryd.f7 (OpenSpec.ofChange Rows.nodeGrowsSpec) false w args)
      (Rows.nodeGrowsSpec.post enc Tryd.prog Tryd.f7 false true false false) := by
  refine returnsInHanded_of_change_and (C := Tryd.checked) (X := fun w _ => laidMetH Tryd.prog Rows.nodeGrowsRow.laid w) (fun _ _ _ hh h => h.of_heap hh) own started (by kernel_rfl) Tryd.func7
    (ChangeSpec.witness_shaped (enc := enc) (C := Tryd.checked) (os := os) (X := fun w _ => laidMetH Tryd.prog Rows.nodeGrowsRow.laid w) false (World.doorLaid Tryd.prog 400 os) #[.agg #[.int .i64 0, .string ByteArray.empty, .string ByteArray.empty, .string ByteArray.empty, .string ByteArray.empty, .string ByteArray.empty, .string ByteArray.empty, .string ByteArray.empty, .string ByteArray.empty, .string ByteArray.empty, .string ByteArray.empty, .string ByteArray.empty, .string ByteArray.empty, .string ByteArray.empty, .string ByteArray.empty, .string ByteArray.empty, .string ByteArray.empty, .string ByteArray.empty, .string ByteArray.empty], .agg #[.int .i64 0, .string ByteArray.empty, .string ByteArray.empty, .string ByteArray.empty, .string ByteArray.empty, .string ByteArray.empty, .string ByteArray.empty, .string ByteArray.empty, .string ByteArray.empty, .string ByteArray.empty, .string ByteArray.empty, .string ByteArray.empty, .string ByteArray.empty, .string ByteArray.empty, .string ByteArray.empty, .string ByteArray.empty, .string ByteArray.empty, .string ByteArray.empty, .string ByteArray.empty], .int .u8 0] 8 rfl (World.shaped_of_RefB (by kernel_rfl) (by kernel_rfl)) (by kernel_rfl) (by kernel_rfl) (by kernel_rfl) (door_met os _)) ?_
  intro W base args ds gs before hval0 hW _ _ hL _
  have hval : ∀ (j : Nat) t v, Tryd.f7.params[j]? = some t → args[j]? = some v → Value.okWide Tryd.prog W .any base t v := hval0
  have hW' := hW
  obtain ⟨p, q, hA0, hV, rfl, hfz, hnd⟩ := hW
  have hA : DataW.TrodAll enc Tryd.prog W 0 (fun _ => true) true Tryd.f7.params.toList args.toList ds p := hA0
  rw [Tryd.params7] at hA hval
  obtain ⟨v0, vs0, d0, ds0, p0, q0, hargs, rfl, rfl, h0, r0⟩ := trodAll_cons hA
  obtain ⟨v1, vs1, d1, ds1, p1, q1, rfl, rfl, rfl, h1, r1⟩ := trodAll_cons r0
  obtain ⟨v2, vs2, d2, ds2, p2, q2, rfl, rfl, rfl, h2, r2⟩ := trodAll_cons r1
  obtain ⟨rfl, rfl, rfl⟩ := trodAll_nil r2
  obtain rfl : args = #[v0, v1, v2] := by cases args; simp_all
  obtain ⟨rfl, rfl⟩ := trodVars_none hV
  obtain ⟨a0, rfl, rfl, rfl, w0⟩ := open_nd (hval 0 25 v0 rfl rfl) h0
  obtain ⟨a1, rfl, rfl, rfl, w1⟩ := open_nd (hval 1 25 v1 rfl rfl) h1
  obtain ⟨a2, rfl, rfl, rfl, w2⟩ := open_int Tryd.underlying5 (hval 2 5 v2 rfl rfl) h2
  have hl : LaidN W := laid_of hL
  clear hA0 hval0
  simp only [List.append_nil] at hW'
  refine (walk a0 a1 a2 w0 w1 w2 W hl).mono fun e W' ⟨he, bel⟩ => ?_
  subst he
  exact ⟨_, rfl, _, _, _, [], [], [], hW', trodAll_mk1 (shut_bool Tryd.underlying4 _), (trodAll_cons_mk (shut_nd w0) (trodAll_cons_mk (shut_nd w1) (trodAll_cons_mk (shut_int Tryd.underlying5 w2) trodAll_mk0))), rfl, bel.frame _, fun h => by cases h⟩
theorem over : Rows.NodeGrowsSaid :=
  OpenClaim.holds_of_wide 7 Tryd.f7 rfl rfl rfl rfl rfl rfl rfl ⟨rfl, rfl, rfl, rfl, rfl⟩ rfl rfl rfl rfl rfl (by kernel_rfl) Tryd.func7 (by kernel_rfl)
    (of_decide_eq_true (by kernel_rfl)) (by unfold Func.isWrapper; rw [if_neg (by decide +kernel)]; exact ⟨rfl, rfl⟩)
    (fun os started H enc _ => lifted os started H enc)
theorem proved : Rows.NodeGrowsCardSaid :=
  Claim7.holds_tied_plain_at .later [] [.data, .data, .handle] true Rows.nodeGrowsCard.stood.harness true
    over (fun _ h => by cases h) (by kernel_rfl) (fun _ h => by cases h) nodeGrows_row_tie rfl ⟨rfl, rfl⟩ (by kernel_rfl) rfl
    (fun f fn hf hfn => by
      obtain rfl : f = 7 := Option.some.inj ((show Tryd.prog.funcNamed "guilloche/guillochelaw04.NodeGrows" = some 7 by kernel_rfl).symm.trans hf) |>.symm
      obtain rfl : fn = Tryd.f7 := (Option.some.inj (Tryd.func7.symm.trans hfn)).symm
      exact ⟨by kernel_rfl, fun j t ht => by
        rw [Tryd.params7] at ht
        have hm : t ∈ [25, 25, 5] := by simpa using Array.mem_of_getElem? ht
        have hall : ([25, 25, 5].all fun u => !Tryd.prog.wantsStandIn u) = true := by kernel_rfl
        exact (show Tryd.prog.wantsStandIn t = false by simpa using List.all_eq_true.1 hall t hm)⟩)
    (by kernel_rfl)
end Go.Proofs.YtljadanalcfdeaaDoor.nodeGrows

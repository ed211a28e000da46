/-
  PROVED HERE: the law NodeHashes returns true for every node (its hashes are those of its refs, in order, each of 32 bytes). What sha's tables and errors.errorType hold is as the program lays it (tied).
-/
import Derived.Test.YtljadanalcfdeaaDoorNodeHashesP
import Derived.Test.YtljadanalcfdeaaDoorCards
import Derived.Test.YtljadanalcfdeaaDoorTie
import Derived.WalkKit
import Derived.ProofKit
import Derived.LaidMore
import Derived.OpenShut
import Derived.ShutString
import Derived.ChangeOld
import Derived.Below
import Derived.Stop.Joined
import Derived.SevenTiedAt
namespace Go.Proofs.YtljadanalcfdeaaDoor.nodeHashes
open Go.ChangeShapes Go.WideShapes Go.ChangeAt Go.RowKit Go.Proofs.Nod
open Go.ChangeMaps (open_string shut_string)
set_option linter.unusedVariables false
set_option linter.unusedSimpArgs false
set_option maxRecDepth 100000 in
set_option maxHeartbeats 32000000 in
theorem walk (a0 : Nd) (w0 : NdOk a0) (w : World) (hl : LaidN w) :
    Calls Tryd.prog 5 #[.agg (ndC a0)] w fun e w' => e = .returned (.bool true) ∧ Below w.heap.size w w' := by
  have WK := Lib.hid (fun W h => nworks_any W h)
  have LA : Hid (∀ W, Below w.heap.size w W → LaidN W) := Lib.hid (fun W h => hl.on h)
  have fewn := fun W => few_any a0 W (fun i hi => w0.each _ (rf_mem a0 i hi)) w0.path w0.value
  have h16 := w0.refs
  obtain ⟨CS, hCS⟩ : ∃ z, z = ndC a0 := ⟨_, rfl⟩
  have NCS := Lib.hid (show Ndc CS by rw [hCS]; exact .of _)
  obtain ⟨Z0, hZ0⟩ : ∃ z, z = ndC zeroN := ⟨_, rfl⟩
  have NZ := Lib.hid (show Ndc Z0 by rw [hZ0]; exact .of _)
  have HZ := Lib.hid hZ0
  have vn := fun W h => wk_valid a0 h16 W h
  have hsh := fun W h => hashes_any a0 h16 W h
  rw [← hCS] at fewn vn hsh ⊢
  obtain ⟨HS, hHS⟩ : ∃ z, z = hashes a0 := ⟨_, rfl⟩
  obtain ⟨CN, hCN⟩ : ∃ z, z = cntH a0 := ⟨_, rfl⟩
  obtain ⟨RF, hRF⟩ : ∃ z, z = rf a0 := ⟨_, rfl⟩
  have CELL := Lib.hid (show ∀ k, k < 16 → CS[3 + k]? = some (.string (RF k)) from fun k hk => by rw [hCS, hRF]; exact ndC_rf a0 k hk)
  have CLE := Lib.hid (show ∀ k, CN k ≤ 16 from fun k => by rw [hCN]; exact cntH_le a0 k)
  have CZ := Lib.hid (show CN 0 = 0 by rw [hCN]; rfl)
  have CNN := Lib.hid (show ∀ k, k < 16 → hashB (RF k) = none → CN (k + 1) = CN k from fun k hk h => by rw [hCN]; rw [hRF] at h; exact cntH_none a0 k hk h)
  unfold Hsh at hsh
  rw [← hHS] at hsh
  rcases hfn : fewB a0 with _ | _
  · rw [hfn] at fewn
    have FEWN := Lib.hid fewn
    clear hl fewn hCS hZ0 hfn w0 h16 vn hsh hHS hCN hRF
    have B0 := Lib.hid (Bl.start w)
    have K1 := Lib.hid (by have := Blk.new (w) 25 CS; simpa using this : Blk ((w).alloc (.cells CS 25)) w.heap.size 25 CS)
    have B2 := Lib.hid (B0.out.alloc (.cells CS 25))
    go_enter Tryd.func5, Tryd.ntmps5
    go_upto_region 1 with (fail)
    generalize w.alloc (.cells CS 25) = W3 at K1 B2 ⊢
    refine wp_region_lit (Segs.WL.out ?_)
    refine Segs.WL.call (some 12) 8 #[] _ rfl (by kernel_rfl) (by kernel_rfl) (WK.out W3 (LA.out _ B2.out.1)) (fun e W4 hR => ?_)
    obtain ⟨rfl, hb⟩ := hR
    refine ⟨_, rfl, ?_⟩
    simp only [Act.put, List.setIfInBounds_toArray, List.set_cons_zero, List.set_cons_succ]
    have K5 := Lib.hid (K1.out.below hb)
    have B6 := Lib.hid (B2.out.call hb)
    clear hb
    refine Segs.WL.val (some 3) (.bool true) W4 rfl (by kernel_rfl) (by kernel_rfl) ?_
    simp only [Act.put, List.setIfInBounds_toArray, List.set_cons_zero, List.set_cons_succ]
    refine Segs.WL.nil ?_
    go_upto_region 2 with (fail)
    refine wp_region_lit (Segs.WL.out ?_)
    refine Segs.WL.val (some 13) (.bool true) W4 rfl (by kernel_rfl) (by kernel_rfl) ?_
    simp only [Act.put, List.setIfInBounds_toArray, List.set_cons_zero, List.set_cons_succ]
    refine Segs.WL.val (some 14) (.bool false) W4 rfl (by kernel_rfl) (by kernel_rfl) ?_
    simp only [Act.put, List.setIfInBounds_toArray, List.set_cons_zero, List.set_cons_succ]
    refine Segs.WL.nil ?_
    go_upto_region 4 with (fail)
    refine wp_region_lit (Segs.WL.out ?_)
    refine Segs.WL.val (some 15) (.agg CS) W4 rfl (by kernel_rfl) (Segs.run_row 25 (.tmp 1) rfl w.heap.size (by kernel_rfl) 25 CS _ K5.out Tryd.underlying25 rfl (info19 (NCS.out.size))) ?_
    simp only [Act.put, List.setIfInBounds_toArray, List.set_cons_zero, List.set_cons_succ]
    refine Segs.WL.call (some 16) 9 #[.agg CS] _ rfl (by kernel_rfl) (by kernel_rfl) (FEWN.out W4) (fun e W7 hR => ?_)
    obtain ⟨rfl, hb⟩ := hR
    refine ⟨_, rfl, ?_⟩
    simp only [Act.put, List.setIfInBounds_toArray, List.set_cons_zero, List.set_cons_succ]
    have K8 := Lib.hid (K5.out.below hb)
    have B9 := Lib.hid (B6.out.call hb)
    clear hb
    refine Segs.WL.val (some 4) (.bool false) W7 rfl (by kernel_rfl) (by kernel_rfl) ?_
    simp only [Act.put, List.setIfInBounds_toArray, List.set_cons_zero, List.set_cons_succ]
    refine Segs.WL.nil ?_
    go_upto_region 5 with (fail)
    refine wp_region_lit (Segs.WL.out ?_)
    refine Segs.WL.val (some 17) (.bool false) W7 rfl (by kernel_rfl) (by kernel_rfl) ?_
    simp only [Act.put, List.setIfInBounds_toArray, List.set_cons_zero, List.set_cons_succ]
    refine Segs.WL.val (some 18) (.bool true) W7 rfl (by kernel_rfl) (by kernel_rfl) ?_
    simp only [Act.put, List.setIfInBounds_toArray, List.set_cons_zero, List.set_cons_succ]
    refine Segs.WL.val (some 19) (.bool true) W7 rfl (by kernel_rfl) (by kernel_rfl) ?_
    simp only [Act.put, List.setIfInBounds_toArray, List.set_cons_zero, List.set_cons_succ]
    refine Segs.WL.not (some 20) rfl (by kernel_rfl) ?_
    simp only [Act.put, List.setIfInBounds_toArray, List.set_cons_zero, List.set_cons_succ]
    refine Segs.WL.not (some 21) rfl (by kernel_rfl) ?_
    simp only [Act.put, List.setIfInBounds_toArray, List.set_cons_zero, List.set_cons_succ]
    refine Segs.WL.not (some 22) rfl (by kernel_rfl) ?_
    simp only [Act.put, List.setIfInBounds_toArray, List.set_cons_zero, List.set_cons_succ]
    refine Segs.WL.val (some 23) (.bool true) W7 rfl (by kernel_rfl) (by kernel_rfl) ?_
    simp only [Act.put, List.setIfInBounds_toArray, List.set_cons_zero, List.set_cons_succ]
    refine Segs.WL.nil ?_
    go_wp2_with fail
    go_ret
    exact ⟨rfl, B9.out.1⟩
  rw [hfn] at fewn
  have FEWN := Lib.hid fewn
  rcases hvn : validB a0 with _ | _
  · rw [hvn] at vn
    have VN := Lib.hid vn
    clear hl fewn hCS hZ0 hfn w0 h16 vn hsh hHS hCN hRF hvn
    have B0 := Lib.hid (Bl.start w)
    have K1 := Lib.hid (by have := Blk.new (w) 25 CS; simpa using this : Blk ((w).alloc (.cells CS 25)) w.heap.size 25 CS)
    have B2 := Lib.hid (B0.out.alloc (.cells CS 25))
    go_enter Tryd.func5, Tryd.ntmps5
    go_upto_region 1 with (fail)
    generalize w.alloc (.cells CS 25) = W3 at K1 B2 ⊢
    refine wp_region_lit (Segs.WL.out ?_)
    refine Segs.WL.call (some 12) 8 #[] _ rfl (by kernel_rfl) (by kernel_rfl) (WK.out W3 (LA.out _ B2.out.1)) (fun e W4 hR => ?_)
    obtain ⟨rfl, hb⟩ := hR
    refine ⟨_, rfl, ?_⟩
    simp only [Act.put, List.setIfInBounds_toArray, List.set_cons_zero, List.set_cons_succ]
    have K5 := Lib.hid (K1.out.below hb)
    have B6 := Lib.hid (B2.out.call hb)
    clear hb
    refine Segs.WL.val (some 3) (.bool true) W4 rfl (by kernel_rfl) (by kernel_rfl) ?_
    simp only [Act.put, List.setIfInBounds_toArray, List.set_cons_zero, List.set_cons_succ]
    refine Segs.WL.nil ?_
    go_upto_region 2 with (fail)
    refine wp_region_lit (Segs.WL.out ?_)
    refine Segs.WL.val (some 13) (.bool true) W4 rfl (by kernel_rfl) (by kernel_rfl) ?_
    simp only [Act.put, List.setIfInBounds_toArray, List.set_cons_zero, List.set_cons_succ]
    refine Segs.WL.val (some 14) (.bool false) W4 rfl (by kernel_rfl) (by kernel_rfl) ?_
    simp only [Act.put, List.setIfInBounds_toArray, List.set_cons_zero, List.set_cons_succ]
    refine Segs.WL.nil ?_
    go_upto_region 4 with (fail)
    refine wp_region_lit (Segs.WL.out ?_)
    refine Segs.WL.val (some 15) (.agg CS) W4 rfl (by kernel_rfl) (Segs.run_row 25 (.tmp 1) rfl w.heap.size (by kernel_rfl) 25 CS _ K5.out Tryd.underlying25 rfl (info19 (NCS.out.size))) ?_
    simp only [Act.put, List.setIfInBounds_toArray, List.set_cons_zero, List.set_cons_succ]
    refine Segs.WL.call (some 16) 9 #[.agg CS] _ rfl (by kernel_rfl) (by kernel_rfl) (FEWN.out W4) (fun e W7 hR => ?_)
    obtain ⟨rfl, hb⟩ := hR
    refine ⟨_, rfl, ?_⟩
    simp only [Act.put, List.setIfInBounds_toArray, List.set_cons_zero, List.set_cons_succ]
    have K8 := Lib.hid (K5.out.below hb)
    have B9 := Lib.hid (B6.out.call hb)
    clear hb
    refine Segs.WL.val (some 4) (.bool true) W7 rfl (by kernel_rfl) (by kernel_rfl) ?_
    simp only [Act.put, List.setIfInBounds_toArray, List.set_cons_zero, List.set_cons_succ]
    refine Segs.WL.nil ?_
    go_upto_region 5 with (fail)
    refine wp_region_lit (Segs.WL.out ?_)
    refine Segs.WL.val (some 17) (.bool true) W7 rfl (by kernel_rfl) (by kernel_rfl) ?_
    simp only [Act.put, List.setIfInBounds_toArray, List.set_cons_zero, List.set_cons_succ]
    refine Segs.WL.val (some 18) (.bool false) W7 rfl (by kernel_rfl) (by kernel_rfl) ?_
    simp only [Act.put, List.setIfInBounds_toArray, List.set_cons_zero, List.set_cons_succ]
    refine Segs.WL.val (some 19) (.bool false) W7 rfl (by kernel_rfl) (by kernel_rfl) ?_
    simp only [Act.put, List.setIfInBounds_toArray, List.set_cons_zero, List.set_cons_succ]
    refine Segs.WL.val (some 20) (.agg CS) W7 rfl (by kernel_rfl) (Segs.run_row 25 (.tmp 1) rfl w.heap.size (by kernel_rfl) 25 CS _ K8.out Tryd.underlying25 rfl (info19 (NCS.out.size))) ?_
    simp only [Act.put, List.setIfInBounds_toArray, List.set_cons_zero, List.set_cons_succ]
    refine Segs.WL.call (some 21) 12 #[.agg CS] _ rfl (by kernel_rfl) (by kernel_rfl) (VN.out W7 (LA.out _ B9.out.1).err) (fun e W10 hR => ?_)
    obtain ⟨rfl, hb⟩ := hR
    refine ⟨_, rfl, ?_⟩
    simp only [Act.put, List.setIfInBounds_toArray, List.set_cons_zero, List.set_cons_succ]
    have K11 := Lib.hid (K8.out.below hb)
    have B12 := Lib.hid (B9.out.call hb)
    clear hb
    refine Segs.WL.val (some 22) (.bool true) W10 rfl (by kernel_rfl) (by kernel_rfl) ?_
    simp only [Act.put, List.setIfInBounds_toArray, List.set_cons_zero, List.set_cons_succ]
    refine Segs.WL.val (some 23) (.bool true) W10 rfl (by kernel_rfl) (by kernel_rfl) ?_
    simp only [Act.put, List.setIfInBounds_toArray, List.set_cons_zero, List.set_cons_succ]
    refine Segs.WL.nil ?_
    go_wp2_with fail
    go_ret
    exact ⟨rfl, B12.out.1⟩
  rw [hvn] at vn
  have VN := Lib.hid vn
  have HSH := Lib.hid hsh
  have CSM := Lib.hid (show ∀ k, k < 16 → ∀ x, hashB (RF k) = some x → CN (k + 1) = CN k + 1 ∧ HS[CN k]? = some x ∧ x.size = 32 ∧ inB (RF k) = none from fun k hk x h => by
    rw [hCN, hHS]; rw [hRF] at h ⊢; exact ⟨cntH_some a0 k hk x h, hashes_at a0 hvn k hk x h, (hashB_size h).2, in_of_hash h⟩)
  have CEND := Lib.hid (show CN 16 = HS.length by rw [hCN, hHS]; exact cntH_end a0 hvn)
  clear hl fewn hCS hZ0 hfn w0 h16 vn hsh hHS hCN hRF hvn
  have B0 := Lib.hid (Bl.start w)
  have K1 := Lib.hid (by have := Blk.new (w) 25 CS; simpa using this : Blk ((w).alloc (.cells CS 25)) w.heap.size 25 CS)
  have B2 := Lib.hid (B0.out.alloc (.cells CS 25))
  go_enter Tryd.func5, Tryd.ntmps5
  go_upto_region 1 with (fail)
  generalize w.alloc (.cells CS 25) = W3 at K1 B2 ⊢
  refine wp_region_lit (Segs.WL.out ?_)
  refine Segs.WL.call (some 12) 8 #[] _ rfl (by kernel_rfl) (by kernel_rfl) (WK.out W3 (LA.out _ B2.out.1)) (fun e W4 hR => ?_)
  obtain ⟨rfl, hb⟩ := hR
  refine ⟨_, rfl, ?_⟩
  simp only [Act.put, List.setIfInBounds_toArray, List.set_cons_zero, List.set_cons_succ]
  have K5 := Lib.hid (K1.out.below hb)
  have B6 := Lib.hid (B2.out.call hb)
  clear hb
  refine Segs.WL.val (some 3) (.bool true) W4 rfl (by kernel_rfl) (by kernel_rfl) ?_
  simp only [Act.put, List.setIfInBounds_toArray, List.set_cons_zero, List.set_cons_succ]
  refine Segs.WL.nil ?_
  go_upto_region 2 with (fail)
  refine wp_region_lit (Segs.WL.out ?_)
  refine Segs.WL.val (some 13) (.bool true) W4 rfl (by kernel_rfl) (by kernel_rfl) ?_
  simp only [Act.put, List.setIfInBounds_toArray, List.set_cons_zero, List.set_cons_succ]
  refine Segs.WL.val (some 14) (.bool false) W4 rfl (by kernel_rfl) (by kernel_rfl) ?_
  simp only [Act.put, List.setIfInBounds_toArray, List.set_cons_zero, List.set_cons_succ]
  refine Segs.WL.nil ?_
  go_upto_region 4 with (fail)
  refine wp_region_lit (Segs.WL.out ?_)
  refine Segs.WL.val (some 15) (.agg CS) W4 rfl (by kernel_rfl) (Segs.run_row 25 (.tmp 1) rfl w.heap.size (by kernel_rfl) 25 CS _ K5.out Tryd.underlying25 rfl (info19 (NCS.out.size))) ?_
  simp only [Act.put, List.setIfInBounds_toArray, List.set_cons_zero, List.set_cons_succ]
  refine Segs.WL.call (some 16) 9 #[.agg CS] _ rfl (by kernel_rfl) (by kernel_rfl) (FEWN.out W4) (fun e W7 hR => ?_)
  obtain ⟨rfl, hb⟩ := hR
  refine ⟨_, rfl, ?_⟩
  simp only [Act.put, List.setIfInBounds_toArray, List.set_cons_zero, List.set_cons_succ]
  have K8 := Lib.hid (K5.out.below hb)
  have B9 := Lib.hid (B6.out.call hb)
  clear hb
  refine Segs.WL.val (some 4) (.bool true) W7 rfl (by kernel_rfl) (by kernel_rfl) ?_
  simp only [Act.put, List.setIfInBounds_toArray, List.set_cons_zero, List.set_cons_succ]
  refine Segs.WL.nil ?_
  go_upto_region 5 with (fail)
  refine wp_region_lit (Segs.WL.out ?_)
  refine Segs.WL.val (some 17) (.bool true) W7 rfl (by kernel_rfl) (by kernel_rfl) ?_
  simp only [Act.put, List.setIfInBounds_toArray, List.set_cons_zero, List.set_cons_succ]
  refine Segs.WL.val (some 18) (.bool false) W7 rfl (by kernel_rfl) (by kernel_rfl) ?_
  simp only [Act.put, List.setIfInBounds_toArray, List.set_cons_zero, List.set_cons_succ]
  refine Segs.WL.val (some 19) (.bool false) W7 rfl (by kernel_rfl) (by kernel_rfl) ?_
  simp only [Act.put, List.setIfInBounds_toArray, List.set_cons_zero, List.set_cons_succ]
  refine Segs.WL.val (some 20) (.agg CS) W7 rfl (by kernel_rfl) (Segs.run_row 25 (.tmp 1) rfl w.heap.size (by kernel_rfl) 25 CS _ K8.out Tryd.underlying25 rfl (info19 (NCS.out.size))) ?_
  simp only [Act.put, List.setIfInBounds_toArray, List.set_cons_zero, List.set_cons_succ]
  refine Segs.WL.call (some 21) 12 #[.agg CS] _ rfl (by kernel_rfl) (by kernel_rfl) (VN.out W7 (LA.out _ B9.out.1).err) (fun e W10 hR => ?_)
  obtain ⟨rfl, hb⟩ := hR
  refine ⟨_, rfl, ?_⟩
  simp only [Act.put, List.setIfInBounds_toArray, List.set_cons_zero, List.set_cons_succ]
  have K11 := Lib.hid (K8.out.below hb)
  have B12 := Lib.hid (B9.out.call hb)
  clear hb
  refine Segs.WL.val (some 22) (.bool false) W10 rfl (by kernel_rfl) (by kernel_rfl) ?_
  simp only [Act.put, List.setIfInBounds_toArray, List.set_cons_zero, List.set_cons_succ]
  refine Segs.WL.val (some 23) (.bool false) W10 rfl (by kernel_rfl) (by kernel_rfl) ?_
  simp only [Act.put, List.setIfInBounds_toArray, List.set_cons_zero, List.set_cons_succ]
  refine Segs.WL.nil ?_
  go_upto_region 7 with (fail)
  refine wp_region_lit (Segs.WL.out ?_)
  refine Segs.WL.val (some 25) (.agg CS) W10 rfl (by kernel_rfl) (Segs.run_row 25 (.tmp 1) rfl w.heap.size (by kernel_rfl) 25 CS _ K11.out Tryd.underlying25 rfl (info19 (NCS.out.size))) ?_
  simp only [Act.put, List.setIfInBounds_toArray, List.set_cons_zero, List.set_cons_succ]
  refine Segs.WL.call (some 26) 18 #[.agg CS] _ rfl (by kernel_rfl) (by kernel_rfl) (HSH.out W10 (LA.out _ B12.out.1).err) (fun e W13 hR => ?_)
  obtain ⟨v0, rfl, own0, hb⟩ := hR
  refine ⟨_, rfl, ?_⟩
  simp only [Act.put, List.setIfInBounds_toArray, List.set_cons_zero, List.set_cons_succ]
  have K14 := Lib.hid (K11.out.below hb)
  have B15 := Lib.hid (B12.out.call hb)
  obtain ⟨A, c, rfl, hc, hS⟩ := Strs.of_own own0
  have SS := Lib.hid hS
  clear own0 hc hS
  clear hb
  refine Segs.WL.val (some 5) (.slice A HS.length c) W13 rfl (by kernel_rfl) (by kernel_rfl) ?_
  simp only [Act.put, List.setIfInBounds_toArray, List.set_cons_zero, List.set_cons_succ]
  refine Segs.WL.nil ?_
  have LA7 : Hid (∀ W, Below W13.heap.size W13 W → LaidN W) := Lib.hid (fun W h => LA.out _ (B15.out.call h).1)
  go_wp2_with fail
  go_loopw [6, 7, 8, 9, 10, 11] (fun vq vi _ _ _ _ wr => ∃ k : Nat, vi = .int .i64 (k : Int) ∧ vq = .int .i64 ((CN k : Nat) : Int) ∧ k ≤ 16 ∧ Hid (Bl W13.heap.size W13 wr)) (fun _ vi _ _ _ _ _ => 16 - (intOf vi).toNat)
  case atStart => exact ⟨0, rfl, by rw [CZ.out]; rfl, by omega, Lib.hid (Bl.start _)⟩
  case round =>
    obtain ⟨k, rfl, rfl, hk, HB⟩ := hrel
    by_cases hlt : k < 16
    · have i1 : (k : Int) < 16 := by omega
      obtain ⟨r, hr⟩ : ∃ z, z = RF k := ⟨_, rfl⟩
      have HCELL := Lib.hid (show CS[3 + k]? = some (.string r) by rw [hr]; exact CELL.out k hlt)
      have csm := CSM.out k hlt
      have cnn := CNN.out k hlt
      rw [← hr] at csm cnn
      have hcl := CLE.out k
      obtain ⟨q, hq⟩ : ∃ z, z = CN k := ⟨_, rfl⟩
      rw [← hq] at csm cnn hcl ⊢
      have HQL := Lib.hid (show q ≤ 1000 by omega)
      have HLT := Lib.hid hlt
      have hash := fun W => hash_any r W
      have inl := fun W h => inline_any r W h (fun h => get_any _ (by omega))
      unfold Inl at inl
      rcases hh : hashB r with _ | h
      rotate_left
      · obtain ⟨c1, c2, c3, c4⟩ := csm h hh
        rw [hh] at hash
        rw [c4] at inl
        simp only [Option.getD_none, Option.getD_some, Option.isSome_none, Option.isSome_some] at hash inl
        rw [← HZ.out] at inl
        have HASH := Lib.hid hash
        have INL := Lib.hid inl
        have hql : q < HS.length := (List.getElem?_eq_some_iff.1 c2).1
        obtain ⟨b, o, rfl, hbl, d0⟩ := SS.out.at_ q hql
        have hx : HS[q] = h := by rw [List.getElem?_eq_getElem hql] at c2; exact Option.some.inj c2
        rw [hx] at d0
        have HQ2 := Lib.hid hql
        have ST : Hid (∀ W, Below W13.heap.size W13 W → W.cell? ⟨b, o + q, none⟩ = some (.string h)) := Lib.hid (fun W hW => (hW.cell (p := ⟨b, _, none⟩) hbl).trans d0)
        have DGE := Lib.hid (show decide ((HS.length : Int) ≤ (q : Int)) = false from decide_eq_false (by omega))
        have DNE := Lib.hid (show decide (h = h) = true from decide_eq_true rfl)
        have DSZ := Lib.hid (show (!decide ((h.size : Int) = (32 : Int))) = false by rw [decide_eq_true (by omega)]; rfl)
        have CST := Lib.hid c1
        clear hash inl csm cnn hr hq hcl hh c1 c2 c3 c4 hql hbl d0 hx hlt
        have HK := Lib.hid (K14.out.below HB.out.1)
        go_upto_region 12 with (fail)
        refine wp_region_lit (Segs.WL.out ?_)
        refine Segs.WL.val (some 32) (.int .i64 ((k : Int))) wr rfl (by kernel_rfl) (by kernel_rfl) ?_
        simp only [Act.put, List.setIfInBounds_toArray, List.set_cons_zero, List.set_cons_succ]
        refine Segs.WL.val (some 33) (.pointer (some ⟨w.heap.size, 3, none⟩)) wr rfl (by kernel_rfl) (by kernel_rfl) ?_
        simp only [Act.put, List.setIfInBounds_toArray, List.set_cons_zero, List.set_cons_succ]
        refine Segs.WL.val (some 34) (.pointer (some ⟨w.heap.size, (3 + k), none⟩)) wr rfl (by kernel_rfl) (run_index16 rfl w.heap.size 3 k (by kernel_rfl) (by kernel_rfl) HLT.out) ?_
        simp only [Act.put, List.setIfInBounds_toArray, List.set_cons_zero, List.set_cons_succ]
        refine Segs.WL.val (some 35) (.string r) wr rfl (by kernel_rfl) (Segs.run_cell 9 (.tmp 34) rfl w.heap.size (3 + k) (by kernel_rfl) _ (isAggS _) (by rw [HK.out.cell]; exact HCELL.out)) ?_
        simp only [Act.put, List.setIfInBounds_toArray, List.set_cons_zero, List.set_cons_succ]
        refine Segs.WL.call (some 36) 14 #[.string r] _ rfl (by kernel_rfl) (by kernel_rfl) (HASH.out wr) (fun e W1 hR => ?_)
        obtain ⟨rfl, hb⟩ := hR
        refine ⟨_, rfl, ?_⟩
        simp only [Act.put, List.setIfInBounds_toArray, List.set_cons_zero, List.set_cons_succ]
        have K2 := Lib.hid (HK.out.below hb)
        have B3 := Lib.hid (HB.out.call hb)
        clear hb
        refine Segs.WL.val (some 31) (.tuple #[.string h, .bool true]) W1 rfl (by kernel_rfl) (by kernel_rfl) ?_
        simp only [Act.put, List.setIfInBounds_toArray, List.set_cons_zero, List.set_cons_succ]
        refine Segs.WL.val (some 37) (.string h) W1 rfl (by kernel_rfl) (by kernel_rfl) ?_
        simp only [Act.put, List.setIfInBounds_toArray, List.set_cons_zero, List.set_cons_succ]
        refine Segs.WL.val (some 38) (.bool true) W1 rfl (by kernel_rfl) (by kernel_rfl) ?_
        simp only [Act.put, List.setIfInBounds_toArray, List.set_cons_zero, List.set_cons_succ]
        refine Segs.WL.val (some 8) (.string h) W1 rfl (by kernel_rfl) (by kernel_rfl) ?_
        simp only [Act.put, List.setIfInBounds_toArray, List.set_cons_zero, List.set_cons_succ]
        refine Segs.WL.val (some 9) (.bool true) W1 rfl (by kernel_rfl) (by kernel_rfl) ?_
        simp only [Act.put, List.setIfInBounds_toArray, List.set_cons_zero, List.set_cons_succ]
        refine Segs.WL.nil ?_
        go_upto_region 13 with (fail)
        refine wp_region_lit (Segs.WL.out ?_)
        refine Segs.WL.val (some 39) (.bool true) W1 rfl (by kernel_rfl) (by kernel_rfl) ?_
        simp only [Act.put, List.setIfInBounds_toArray, List.set_cons_zero, List.set_cons_succ]
        refine Segs.WL.nil ?_
        go_upto_region 14 with (fail)
        refine wp_region_lit (Segs.WL.out ?_)
        refine Segs.WL.val (some 40) (.int .i64 ((q : Int))) W1 rfl (by kernel_rfl) (by kernel_rfl) ?_
        simp only [Act.put, List.setIfInBounds_toArray, List.set_cons_zero, List.set_cons_succ]
        refine Segs.WL.val (some 41) (.slice (some ⟨b, o, none⟩) HS.length c) W1 rfl (by kernel_rfl) (by kernel_rfl) ?_
        simp only [Act.put, List.setIfInBounds_toArray, List.set_cons_zero, List.set_cons_succ]
        refine Segs.WL.val (some 42) (.int .i64 ((HS.length : Int))) W1 rfl (by kernel_rfl) (by kernel_rfl) ?_
        simp only [Act.put, List.setIfInBounds_toArray, List.set_cons_zero, List.set_cons_succ]
        refine Segs.WL.val (some 43) (.bool (decide ((HS.length : Int) ≤ (q : Int)))) W1 rfl (by kernel_rfl) (by kernel_rfl) ?_
        simp only [Act.put, List.setIfInBounds_toArray, List.set_cons_zero, List.set_cons_succ]
        rw [DGE.out]
        refine Segs.WL.val (some 44) (.bool false) W1 rfl (by kernel_rfl) (by kernel_rfl) ?_
        simp only [Act.put, List.setIfInBounds_toArray, List.set_cons_zero, List.set_cons_succ]
        refine Segs.WL.val (some 45) (.slice (some ⟨b, o, none⟩) HS.length c) W1 rfl (by kernel_rfl) (by kernel_rfl) ?_
        simp only [Act.put, List.setIfInBounds_toArray, List.set_cons_zero, List.set_cons_succ]
        refine Segs.WL.val (some 46) (.int .i64 ((q : Int))) W1 rfl (by kernel_rfl) (by kernel_rfl) ?_
        simp only [Act.put, List.setIfInBounds_toArray, List.set_cons_zero, List.set_cons_succ]
        refine Segs.WL.val (some 47) (.pointer (some ⟨b, o + q, none⟩)) W1 rfl (by kernel_rfl) (run_idx rfl b o q HS.length c (by kernel_rfl) (by kernel_rfl) HQ2.out) ?_
        simp only [Act.put, List.setIfInBounds_toArray, List.set_cons_zero, List.set_cons_succ]
        refine Segs.WL.val (some 48) (.string h) W1 rfl (by kernel_rfl) (Segs.run_cell 9 (.tmp 47) rfl b (o + q) (by kernel_rfl) _ (isAggS _) (ST.out _ B3.out.1)) ?_
        simp only [Act.put, List.setIfInBounds_toArray, List.set_cons_zero, List.set_cons_succ]
        refine Segs.WL.val (some 49) (.string h) W1 rfl (by kernel_rfl) (by kernel_rfl) ?_
        simp only [Act.put, List.setIfInBounds_toArray, List.set_cons_zero, List.set_cons_succ]
        refine Segs.WL.val (some 50) (.bool !true) W1 rfl (by kernel_rfl) (run_nes rfl h h (by kernel_rfl) (by kernel_rfl) true (DNE.out)) ?_
        simp only [Act.put, List.setIfInBounds_toArray, List.set_cons_zero, List.set_cons_succ]
        refine Segs.WL.val (some 51) (.bool false) W1 rfl (by kernel_rfl) (by kernel_rfl) ?_
        simp only [Act.put, List.setIfInBounds_toArray, List.set_cons_zero, List.set_cons_succ]
        refine Segs.WL.val (some 52) (.bool false) W1 rfl (by kernel_rfl) (by kernel_rfl) ?_
        simp only [Act.put, List.setIfInBounds_toArray, List.set_cons_zero, List.set_cons_succ]
        refine Segs.WL.val (some 53) (.string h) W1 rfl (by kernel_rfl) (by kernel_rfl) ?_
        simp only [Act.put, List.setIfInBounds_toArray, List.set_cons_zero, List.set_cons_succ]
        refine Segs.WL.val (some 54) (.int .i64 ((h.size : Int))) W1 rfl (by kernel_rfl) (by kernel_rfl) ?_
        simp only [Act.put, List.setIfInBounds_toArray, List.set_cons_zero, List.set_cons_succ]
        refine Segs.WL.val (some 55) (.bool (!decide ((h.size : Int) = (32 : Int)))) W1 rfl (by kernel_rfl) (by kernel_rfl) ?_
        simp only [Act.put, List.setIfInBounds_toArray, List.set_cons_zero, List.set_cons_succ]
        rw [DSZ.out]
        refine Segs.WL.val (some 56) (.bool false) W1 rfl (by kernel_rfl) (by kernel_rfl) ?_
        simp only [Act.put, List.setIfInBounds_toArray, List.set_cons_zero, List.set_cons_succ]
        refine Segs.WL.nil ?_
        go_upto_region 16 with (fail)
        refine wp_region_lit (Segs.WL.out ?_)
        refine Segs.WL.val (some 57) (.int .i64 ((q : Int))) W1 rfl (by kernel_rfl) (by kernel_rfl) ?_
        simp only [Act.put, List.setIfInBounds_toArray, List.set_cons_zero, List.set_cons_succ]
        refine Segs.WL.val (some 58) (.int .i64 (((q + 1 : Nat) : Int))) W1 rfl (by kernel_rfl) (run_inc rfl q (by kernel_rfl) HQL.out) ?_
        simp only [Act.put, List.setIfInBounds_toArray, List.set_cons_zero, List.set_cons_succ]
        refine Segs.WL.val (some 6) (.int .i64 (((q + 1 : Nat) : Int))) W1 rfl (by kernel_rfl) (by kernel_rfl) ?_
        simp only [Act.put, List.setIfInBounds_toArray, List.set_cons_zero, List.set_cons_succ]
        refine Segs.WL.nil ?_
        go_upto_region 17 with (fail)
        refine wp_region_lit (Segs.WL.out ?_)
        refine Segs.WL.val (some 60) (.int .i64 ((k : Int))) W1 rfl (by kernel_rfl) (by kernel_rfl) ?_
        simp only [Act.put, List.setIfInBounds_toArray, List.set_cons_zero, List.set_cons_succ]
        refine Segs.WL.val (some 61) (.pointer (some ⟨w.heap.size, 3, none⟩)) W1 rfl (by kernel_rfl) (by kernel_rfl) ?_
        simp only [Act.put, List.setIfInBounds_toArray, List.set_cons_zero, List.set_cons_succ]
        refine Segs.WL.val (some 62) (.pointer (some ⟨w.heap.size, (3 + k), none⟩)) W1 rfl (by kernel_rfl) (run_index16 rfl w.heap.size 3 k (by kernel_rfl) (by kernel_rfl) HLT.out) ?_
        simp only [Act.put, List.setIfInBounds_toArray, List.set_cons_zero, List.set_cons_succ]
        refine Segs.WL.val (some 63) (.string r) W1 rfl (by kernel_rfl) (Segs.run_cell 9 (.tmp 62) rfl w.heap.size (3 + k) (by kernel_rfl) _ (isAggS _) (by rw [K2.out.cell]; exact HCELL.out)) ?_
        simp only [Act.put, List.setIfInBounds_toArray, List.set_cons_zero, List.set_cons_succ]
        refine Segs.WL.call (some 64) 15 #[.string r] _ rfl (by kernel_rfl) (by kernel_rfl) (INL.out W1 (LA7.out _ B3.out.1).err) (fun e W4 hR => ?_)
        obtain ⟨rfl, hb⟩ := hR
        refine ⟨_, rfl, ?_⟩
        simp only [Act.put, List.setIfInBounds_toArray, List.set_cons_zero, List.set_cons_succ]
        have K5 := Lib.hid (K2.out.below hb)
        have B6 := Lib.hid (B3.out.call hb)
        clear hb
        refine Segs.WL.val (some 59) (.tuple #[.agg Z0, .bool false]) W4 rfl (by kernel_rfl) (by kernel_rfl) ?_
        simp only [Act.put, List.setIfInBounds_toArray, List.set_cons_zero, List.set_cons_succ]
        refine Segs.WL.val (some 65) (.agg Z0) W4 rfl (by kernel_rfl) (by kernel_rfl) ?_
        simp only [Act.put, List.setIfInBounds_toArray, List.set_cons_zero, List.set_cons_succ]
        refine Segs.WL.val (some 66) (.bool false) W4 rfl (by kernel_rfl) (by kernel_rfl) ?_
        simp only [Act.put, List.setIfInBounds_toArray, List.set_cons_zero, List.set_cons_succ]
        obtain ⟨bx, hbx⟩ : ∃ n, n = W4.heap.size := ⟨_, rfl⟩
        have K8 := Lib.hid (K5.out.alloc (.cells Z0 25))
        have ne9 : w.heap.size ≠ bx := by have := K5.out.lt; omega
        have K10 := Lib.hid (by have := Blk.new W4 25 Z0; rw [← hbx] at this; exact this : Blk (W4.alloc (.cells Z0 25)) bx 25 Z0)
        have B11 := Lib.hid (B6.out.alloc (.cells Z0 25))
        have ge12 : W13.heap.size ≤ bx := by rw [hbx]; exact B6.out.2
        refine Segs.WL.val (some 10) (.pointer (some ⟨bx, 0, none⟩)) (W4.alloc (.cells Z0 25)) rfl (by kernel_rfl) (by rw [hbx]; exact Segs.run_allocOf rfl Z0 (al_nd0 HZ.out)) ?_
        simp only [Act.put, List.setIfInBounds_toArray, List.set_cons_zero, List.set_cons_succ]
        generalize W4.alloc (.cells Z0 25) = W7 at K8 K10 B11 ⊢
        clear hbx
        have K14 := Lib.hid (K8.out.rowOther (g' := bx) (cs := Z0) ne9)
        have K15 := Lib.hid (K10.out.row (cs := Z0))
        have B16 := Lib.hid (Bl.setRow B11.out (g := bx) ge12 Z0)
        refine Segs.WL.skip (W7.setRow bx Z0) rfl (by kernel_rfl) (Segs.run_storeRow rfl bx Z0 (by kernel_rfl) (by kernel_rfl) 25 Z0 K10.out (info19 NZ.out.size) (NZ.out.size.trans NZ.out.size.symm) NZ.out.one) ?_
        generalize W7.setRow bx Z0 = W13 at K14 K15 B16 ⊢
        refine Segs.WL.val (some 11) (.bool false) W13 rfl (by kernel_rfl) (by kernel_rfl) ?_
        simp only [Act.put, List.setIfInBounds_toArray, List.set_cons_zero, List.set_cons_succ]
        refine Segs.WL.nil ?_
        go_upto_region 18 with (fail)
        refine wp_region_lit (Segs.WL.out ?_)
        refine Segs.WL.val (some 67) (.bool false) W13 rfl (by kernel_rfl) (by kernel_rfl) ?_
        simp only [Act.put, List.setIfInBounds_toArray, List.set_cons_zero, List.set_cons_succ]
        refine Segs.WL.nil ?_
        go_wp2_with fail
        refine ⟨⟨k + 1, by go_num, by rw [CST.out] <;> rfl, by omega, B16⟩, by simp [intOf]; omega⟩
      have CST := Lib.hid (cnn hh)
      rw [hh] at hash
      simp only [Option.getD_none, Option.getD_some, Option.isSome_none, Option.isSome_some] at hash
      have HASH := Lib.hid hash
      rcases hi : inB r with _ | m
      · rw [hi] at inl
        simp only [Option.getD_none, Option.getD_some, Option.isSome_none, Option.isSome_some] at inl
        rw [← HZ.out] at inl
        have INL := Lib.hid inl
        clear hash inl csm cnn hr hq hcl hh hi hlt
        have HK := Lib.hid (K14.out.below HB.out.1)
        go_upto_region 12 with (fail)
        refine wp_region_lit (Segs.WL.out ?_)
        refine Segs.WL.val (some 32) (.int .i64 ((k : Int))) wr rfl (by kernel_rfl) (by kernel_rfl) ?_
        simp only [Act.put, List.setIfInBounds_toArray, List.set_cons_zero, List.set_cons_succ]
        refine Segs.WL.val (some 33) (.pointer (some ⟨w.heap.size, 3, none⟩)) wr rfl (by kernel_rfl) (by kernel_rfl) ?_
        simp only [Act.put, List.setIfInBounds_toArray, List.set_cons_zero, List.set_cons_succ]
        refine Segs.WL.val (some 34) (.pointer (some ⟨w.heap.size, (3 + k), none⟩)) wr rfl (by kernel_rfl) (run_index16 rfl w.heap.size 3 k (by kernel_rfl) (by kernel_rfl) HLT.out) ?_
        simp only [Act.put, List.setIfInBounds_toArray, List.set_cons_zero, List.set_cons_succ]
        refine Segs.WL.val (some 35) (.string r) wr rfl (by kernel_rfl) (Segs.run_cell 9 (.tmp 34) rfl w.heap.size (3 + k) (by kernel_rfl) _ (isAggS _) (by rw [HK.out.cell]; exact HCELL.out)) ?_
        simp only [Act.put, List.setIfInBounds_toArray, List.set_cons_zero, List.set_cons_succ]
        refine Segs.WL.call (some 36) 14 #[.string r] _ rfl (by kernel_rfl) (by kernel_rfl) (HASH.out wr) (fun e W1 hR => ?_)
        obtain ⟨rfl, hb⟩ := hR
        refine ⟨_, rfl, ?_⟩
        simp only [Act.put, List.setIfInBounds_toArray, List.set_cons_zero, List.set_cons_succ]
        have K2 := Lib.hid (HK.out.below hb)
        have B3 := Lib.hid (HB.out.call hb)
        clear hb
        refine Segs.WL.val (some 31) (.tuple #[.string e0, .bool false]) W1 rfl (by kernel_rfl) (by kernel_rfl) ?_
        simp only [Act.put, List.setIfInBounds_toArray, List.set_cons_zero, List.set_cons_succ]
        refine Segs.WL.val (some 37) (.string e0) W1 rfl (by kernel_rfl) (by kernel_rfl) ?_
        simp only [Act.put, List.setIfInBounds_toArray, List.set_cons_zero, List.set_cons_succ]
        refine Segs.WL.val (some 38) (.bool false) W1 rfl (by kernel_rfl) (by kernel_rfl) ?_
        simp only [Act.put, List.setIfInBounds_toArray, List.set_cons_zero, List.set_cons_succ]
        refine Segs.WL.val (some 8) (.string e0) W1 rfl (by kernel_rfl) (by kernel_rfl) ?_
        simp only [Act.put, List.setIfInBounds_toArray, List.set_cons_zero, List.set_cons_succ]
        refine Segs.WL.val (some 9) (.bool false) W1 rfl (by kernel_rfl) (by kernel_rfl) ?_
        simp only [Act.put, List.setIfInBounds_toArray, List.set_cons_zero, List.set_cons_succ]
        refine Segs.WL.nil ?_
        go_upto_region 13 with (fail)
        refine wp_region_lit (Segs.WL.out ?_)
        refine Segs.WL.val (some 39) (.bool false) W1 rfl (by kernel_rfl) (by kernel_rfl) ?_
        simp only [Act.put, List.setIfInBounds_toArray, List.set_cons_zero, List.set_cons_succ]
        refine Segs.WL.nil ?_
        go_upto_region 17 with (fail)
        refine wp_region_lit (Segs.WL.out ?_)
        refine Segs.WL.val (some 60) (.int .i64 ((k : Int))) W1 rfl (by kernel_rfl) (by kernel_rfl) ?_
        simp only [Act.put, List.setIfInBounds_toArray, List.set_cons_zero, List.set_cons_succ]
        refine Segs.WL.val (some 61) (.pointer (some ⟨w.heap.size, 3, none⟩)) W1 rfl (by kernel_rfl) (by kernel_rfl) ?_
        simp only [Act.put, List.setIfInBounds_toArray, List.set_cons_zero, List.set_cons_succ]
        refine Segs.WL.val (some 62) (.pointer (some ⟨w.heap.size, (3 + k), none⟩)) W1 rfl (by kernel_rfl) (run_index16 rfl w.heap.size 3 k (by kernel_rfl) (by kernel_rfl) HLT.out) ?_
        simp only [Act.put, List.setIfInBounds_toArray, List.set_cons_zero, List.set_cons_succ]
        refine Segs.WL.val (some 63) (.string r) W1 rfl (by kernel_rfl) (Segs.run_cell 9 (.tmp 62) rfl w.heap.size (3 + k) (by kernel_rfl) _ (isAggS _) (by rw [K2.out.cell]; exact HCELL.out)) ?_
        simp only [Act.put, List.setIfInBounds_toArray, List.set_cons_zero, List.set_cons_succ]
        refine Segs.WL.call (some 64) 15 #[.string r] _ rfl (by kernel_rfl) (by kernel_rfl) (INL.out W1 (LA7.out _ B3.out.1).err) (fun e W4 hR => ?_)
        obtain ⟨rfl, hb⟩ := hR
        refine ⟨_, rfl, ?_⟩
        simp only [Act.put, List.setIfInBounds_toArray, List.set_cons_zero, List.set_cons_succ]
        have K5 := Lib.hid (K2.out.below hb)
        have B6 := Lib.hid (B3.out.call hb)
        clear hb
        refine Segs.WL.val (some 59) (.tuple #[.agg Z0, .bool false]) W4 rfl (by kernel_rfl) (by kernel_rfl) ?_
        simp only [Act.put, List.setIfInBounds_toArray, List.set_cons_zero, List.set_cons_succ]
        refine Segs.WL.val (some 65) (.agg Z0) W4 rfl (by kernel_rfl) (by kernel_rfl) ?_
        simp only [Act.put, List.setIfInBounds_toArray, List.set_cons_zero, List.set_cons_succ]
        refine Segs.WL.val (some 66) (.bool false) W4 rfl (by kernel_rfl) (by kernel_rfl) ?_
        simp only [Act.put, List.setIfInBounds_toArray, List.set_cons_zero, List.set_cons_succ]
        obtain ⟨bx, hbx⟩ : ∃ n, n = W4.heap.size := ⟨_, rfl⟩
        have K8 := Lib.hid (K5.out.alloc (.cells Z0 25))
        have ne9 : w.heap.size ≠ bx := by have := K5.out.lt; omega
        have K10 := Lib.hid (by have := Blk.new W4 25 Z0; rw [← hbx] at this; exact this : Blk (W4.alloc (.cells Z0 25)) bx 25 Z0)
        have B11 := Lib.hid (B6.out.alloc (.cells Z0 25))
        have ge12 : W13.heap.size ≤ bx := by rw [hbx]; exact B6.out.2
        refine Segs.WL.val (some 10) (.pointer (some ⟨bx, 0, none⟩)) (W4.alloc (.cells Z0 25)) rfl (by kernel_rfl) (by rw [hbx]; exact Segs.run_allocOf rfl Z0 (al_nd0 HZ.out)) ?_
        simp only [Act.put, List.setIfInBounds_toArray, List.set_cons_zero, List.set_cons_succ]
        generalize W4.alloc (.cells Z0 25) = W7 at K8 K10 B11 ⊢
        clear hbx
        have K14 := Lib.hid (K8.out.rowOther (g' := bx) (cs := Z0) ne9)
        have K15 := Lib.hid (K10.out.row (cs := Z0))
        have B16 := Lib.hid (Bl.setRow B11.out (g := bx) ge12 Z0)
        refine Segs.WL.skip (W7.setRow bx Z0) rfl (by kernel_rfl) (Segs.run_storeRow rfl bx Z0 (by kernel_rfl) (by kernel_rfl) 25 Z0 K10.out (info19 NZ.out.size) (NZ.out.size.trans NZ.out.size.symm) NZ.out.one) ?_
        generalize W7.setRow bx Z0 = W13 at K14 K15 B16 ⊢
        refine Segs.WL.val (some 11) (.bool false) W13 rfl (by kernel_rfl) (by kernel_rfl) ?_
        simp only [Act.put, List.setIfInBounds_toArray, List.set_cons_zero, List.set_cons_succ]
        refine Segs.WL.nil ?_
        go_upto_region 18 with (fail)
        refine wp_region_lit (Segs.WL.out ?_)
        refine Segs.WL.val (some 67) (.bool false) W13 rfl (by kernel_rfl) (by kernel_rfl) ?_
        simp only [Act.put, List.setIfInBounds_toArray, List.set_cons_zero, List.set_cons_succ]
        refine Segs.WL.nil ?_
        go_wp2_with fail
        refine ⟨⟨k + 1, by go_num, by rw [CST.out] <;> rfl, by omega, B16⟩, by simp [intOf]; omega⟩
      · rw [hi] at inl
        simp only [Option.getD_none, Option.getD_some, Option.isSome_none, Option.isSome_some] at inl
        obtain ⟨CI, hCI⟩ : ∃ z, z = ndC m := ⟨_, rfl⟩
        have NCI := Lib.hid (show Ndc CI by rw [hCI]; exact .of _)
        rw [← hCI] at inl
        have hm := fun W h => hashes_len m (in_hashes hi).1 W h
        rw [(in_hashes hi).2, ← hCI] at hm
        have HM := Lib.hid hm
        have INL := Lib.hid inl
        clear hash inl csm cnn hr hq hcl hh hi hlt hCI hm
        have HK := Lib.hid (K14.out.below HB.out.1)
        go_upto_region 12 with (fail)
        refine wp_region_lit (Segs.WL.out ?_)
        refine Segs.WL.val (some 32) (.int .i64 ((k : Int))) wr rfl (by kernel_rfl) (by kernel_rfl) ?_
        simp only [Act.put, List.setIfInBounds_toArray, List.set_cons_zero, List.set_cons_succ]
        refine Segs.WL.val (some 33) (.pointer (some ⟨w.heap.size, 3, none⟩)) wr rfl (by kernel_rfl) (by kernel_rfl) ?_
        simp only [Act.put, List.setIfInBounds_toArray, List.set_cons_zero, List.set_cons_succ]
        refine Segs.WL.val (some 34) (.pointer (some ⟨w.heap.size, (3 + k), none⟩)) wr rfl (by kernel_rfl) (run_index16 rfl w.heap.size 3 k (by kernel_rfl) (by kernel_rfl) HLT.out) ?_
        simp only [Act.put, List.setIfInBounds_toArray, List.set_cons_zero, List.set_cons_succ]
        refine Segs.WL.val (some 35) (.string r) wr rfl (by kernel_rfl) (Segs.run_cell 9 (.tmp 34) rfl w.heap.size (3 + k) (by kernel_rfl) _ (isAggS _) (by rw [HK.out.cell]; exact HCELL.out)) ?_
        simp only [Act.put, List.setIfInBounds_toArray, List.set_cons_zero, List.set_cons_succ]
        refine Segs.WL.call (some 36) 14 #[.string r] _ rfl (by kernel_rfl) (by kernel_rfl) (HASH.out wr) (fun e W1 hR => ?_)
        obtain ⟨rfl, hb⟩ := hR
        refine ⟨_, rfl, ?_⟩
        simp only [Act.put, List.setIfInBounds_toArray, List.set_cons_zero, List.set_cons_succ]
        have K2 := Lib.hid (HK.out.below hb)
        have B3 := Lib.hid (HB.out.call hb)
        clear hb
        refine Segs.WL.val (some 31) (.tuple #[.string e0, .bool false]) W1 rfl (by kernel_rfl) (by kernel_rfl) ?_
        simp only [Act.put, List.setIfInBounds_toArray, List.set_cons_zero, List.set_cons_succ]
        refine Segs.WL.val (some 37) (.string e0) W1 rfl (by kernel_rfl) (by kernel_rfl) ?_
        simp only [Act.put, List.setIfInBounds_toArray, List.set_cons_zero, List.set_cons_succ]
        refine Segs.WL.val (some 38) (.bool false) W1 rfl (by kernel_rfl) (by kernel_rfl) ?_
        simp only [Act.put, List.setIfInBounds_toArray, List.set_cons_zero, List.set_cons_succ]
        refine Segs.WL.val (some 8) (.string e0) W1 rfl (by kernel_rfl) (by kernel_rfl) ?_
        simp only [Act.put, List.setIfInBounds_toArray, List.set_cons_zero, List.set_cons_succ]
        refine Segs.WL.val (some 9) (.bool false) W1 rfl (by kernel_rfl) (by kernel_rfl) ?_
        simp only [Act.put, List.setIfInBounds_toArray, List.set_cons_zero, List.set_cons_succ]
        refine Segs.WL.nil ?_
        go_upto_region 13 with (fail)
        refine wp_region_lit (Segs.WL.out ?_)
        refine Segs.WL.val (some 39) (.bool false) W1 rfl (by kernel_rfl) (by kernel_rfl) ?_
        simp only [Act.put, List.setIfInBounds_toArray, List.set_cons_zero, List.set_cons_succ]
        refine Segs.WL.nil ?_
        go_upto_region 17 with (fail)
        refine wp_region_lit (Segs.WL.out ?_)
        refine Segs.WL.val (some 60) (.int .i64 ((k : Int))) W1 rfl (by kernel_rfl) (by kernel_rfl) ?_
        simp only [Act.put, List.setIfInBounds_toArray, List.set_cons_zero, List.set_cons_succ]
        refine Segs.WL.val (some 61) (.pointer (some ⟨w.heap.size, 3, none⟩)) W1 rfl (by kernel_rfl) (by kernel_rfl) ?_
        simp only [Act.put, List.setIfInBounds_toArray, List.set_cons_zero, List.set_cons_succ]
        refine Segs.WL.val (some 62) (.pointer (some ⟨w.heap.size, (3 + k), none⟩)) W1 rfl (by kernel_rfl) (run_index16 rfl w.heap.size 3 k (by kernel_rfl) (by kernel_rfl) HLT.out) ?_
        simp only [Act.put, List.setIfInBounds_toArray, List.set_cons_zero, List.set_cons_succ]
        refine Segs.WL.val (some 63) (.string r) W1 rfl (by kernel_rfl) (Segs.run_cell 9 (.tmp 62) rfl w.heap.size (3 + k) (by kernel_rfl) _ (isAggS _) (by rw [K2.out.cell]; exact HCELL.out)) ?_
        simp only [Act.put, List.setIfInBounds_toArray, List.set_cons_zero, List.set_cons_succ]
        refine Segs.WL.call (some 64) 15 #[.string r] _ rfl (by kernel_rfl) (by kernel_rfl) (INL.out W1 (LA7.out _ B3.out.1).err) (fun e W4 hR => ?_)
        obtain ⟨rfl, hb⟩ := hR
        refine ⟨_, rfl, ?_⟩
        simp only [Act.put, List.setIfInBounds_toArray, List.set_cons_zero, List.set_cons_succ]
        have K5 := Lib.hid (K2.out.below hb)
        have B6 := Lib.hid (B3.out.call hb)
        clear hb
        refine Segs.WL.val (some 59) (.tuple #[.agg CI, .bool true]) W4 rfl (by kernel_rfl) (by kernel_rfl) ?_
        simp only [Act.put, List.setIfInBounds_toArray, List.set_cons_zero, List.set_cons_succ]
        refine Segs.WL.val (some 65) (.agg CI) W4 rfl (by kernel_rfl) (by kernel_rfl) ?_
        simp only [Act.put, List.setIfInBounds_toArray, List.set_cons_zero, List.set_cons_succ]
        refine Segs.WL.val (some 66) (.bool true) W4 rfl (by kernel_rfl) (by kernel_rfl) ?_
        simp only [Act.put, List.setIfInBounds_toArray, List.set_cons_zero, List.set_cons_succ]
        obtain ⟨bx, hbx⟩ : ∃ n, n = W4.heap.size := ⟨_, rfl⟩
        have K8 := Lib.hid (K5.out.alloc (.cells Z0 25))
        have ne9 : w.heap.size ≠ bx := by have := K5.out.lt; omega
        have K10 := Lib.hid (by have := Blk.new W4 25 Z0; rw [← hbx] at this; exact this : Blk (W4.alloc (.cells Z0 25)) bx 25 Z0)
        have B11 := Lib.hid (B6.out.alloc (.cells Z0 25))
        have ge12 : W13.heap.size ≤ bx := by rw [hbx]; exact B6.out.2
        refine Segs.WL.val (some 10) (.pointer (some ⟨bx, 0, none⟩)) (W4.alloc (.cells Z0 25)) rfl (by kernel_rfl) (by rw [hbx]; exact Segs.run_allocOf rfl Z0 (al_nd0 HZ.out)) ?_
        simp only [Act.put, List.setIfInBounds_toArray, List.set_cons_zero, List.set_cons_succ]
        generalize W4.alloc (.cells Z0 25) = W7 at K8 K10 B11 ⊢
        clear hbx
        have K14 := Lib.hid (K8.out.rowOther (g' := bx) (cs := CI) ne9)
        have K15 := Lib.hid (K10.out.row (cs := CI))
        have B16 := Lib.hid (Bl.setRow B11.out (g := bx) ge12 CI)
        refine Segs.WL.skip (W7.setRow bx CI) rfl (by kernel_rfl) (Segs.run_storeRow rfl bx CI (by kernel_rfl) (by kernel_rfl) 25 Z0 K10.out (info19 NCI.out.size) (NZ.out.size.trans NCI.out.size.symm) NCI.out.one) ?_
        generalize W7.setRow bx CI = W13 at K14 K15 B16 ⊢
        refine Segs.WL.val (some 11) (.bool true) W13 rfl (by kernel_rfl) (by kernel_rfl) ?_
        simp only [Act.put, List.setIfInBounds_toArray, List.set_cons_zero, List.set_cons_succ]
        refine Segs.WL.nil ?_
        go_upto_region 18 with (fail)
        refine wp_region_lit (Segs.WL.out ?_)
        refine Segs.WL.val (some 67) (.bool true) W13 rfl (by kernel_rfl) (by kernel_rfl) ?_
        simp only [Act.put, List.setIfInBounds_toArray, List.set_cons_zero, List.set_cons_succ]
        refine Segs.WL.nil ?_
        go_upto_region 19 with (fail)
        refine wp_region_lit (Segs.WL.out ?_)
        refine Segs.WL.val (some 68) (.int .i64 ((q : Int))) W13 rfl (by kernel_rfl) (by kernel_rfl) ?_
        simp only [Act.put, List.setIfInBounds_toArray, List.set_cons_zero, List.set_cons_succ]
        refine Segs.WL.val (some 69) (.agg CI) W13 rfl (by kernel_rfl) (Segs.run_row 25 (.tmp 10) rfl bx (by kernel_rfl) 25 CI _ K15.out Tryd.underlying25 rfl (info19 (NCI.out.size))) ?_
        simp only [Act.put, List.setIfInBounds_toArray, List.set_cons_zero, List.set_cons_succ]
        refine Segs.WL.call (some 70) 18 #[.agg CI] _ rfl (by kernel_rfl) (by kernel_rfl) (HM.out W13 (LA7.out _ B16.out.1).err) (fun e W17 hR => ?_)
        obtain ⟨v1, rfl, len1, hb⟩ := hR
        refine ⟨_, rfl, ?_⟩
        simp only [Act.put, List.setIfInBounds_toArray, List.set_cons_zero, List.set_cons_succ]
        have K18 := Lib.hid (K14.out.below hb)
        have K19 := Lib.hid (K15.out.below hb)
        have B20 := Lib.hid (B16.out.call hb)
        have LEN1 := Lib.hid len1
        clear len1
        clear hb
        refine Segs.WL.val (some 71) (.int .i64 (((0 : Nat) : Int))) W17 rfl (by kernel_rfl) (LEN1.out _ _ _ _ rfl (by kernel_rfl)) ?_
        simp only [Act.put, List.setIfInBounds_toArray, List.set_cons_zero, List.set_cons_succ]
        refine Segs.WL.val (some 72) (.int .i64 (((q + 0 : Nat) : Int))) W17 rfl (by kernel_rfl) (run_addn rfl q 0 (by kernel_rfl) (by kernel_rfl) HQL.out (by decide)) ?_
        simp only [Act.put, List.setIfInBounds_toArray, List.set_cons_zero, List.set_cons_succ]
        refine Segs.WL.val (some 6) (.int .i64 (((q + 0 : Nat) : Int))) W17 rfl (by kernel_rfl) (by kernel_rfl) ?_
        simp only [Act.put, List.setIfInBounds_toArray, List.set_cons_zero, List.set_cons_succ]
        refine Segs.WL.nil ?_
        go_wp2_with fail
        refine ⟨⟨k + 1, by go_num, by rw [CST.out] <;> rfl, by omega, B20⟩, by simp [intOf]; omega⟩
    · obtain rfl : k = 16 := by omega
      rw [CEND.out]
      have DEQ := Lib.hid (show decide ((HS.length : Int) = (HS.length : Int)) = true from decide_eq_true rfl)
      go_wp2_with fail
      go_ret
      exact ⟨rfl, (B15.out.call HB.out.1).1⟩
set_option maxRecDepth 100000 in
theorem lifted (os : Os) (started : os.Started) (H : Type) (enc : TypeId × Value → H) :
    ReturnsInHanded {} Tryd.checked os 5 .any (fun w args => (Rows.nodeHashesSpec.pre enc Tryd.prog Tryd.f5 [] false w args ∧ laidMetH Tryd.prog Rows.nodeHashesRow.laid w) ∧ sizedMet enc Tryd.prog Tryd.f5 (OpenSpec.ofChange Rows.nodeHashesSpec) false w args)
      (Rows.nodeHashesSpec.post enc Tryd.prog Tryd.f5 false true false false) := by
  refine returnsInHanded_of_change_and (C := Tryd.checked) (X := fun w _ => laidMetH Tryd.prog Rows.nodeHashesRow.laid w) (fun _ _ _ hh h => h.of_heap hh) own started (by kernel_rfl) Tryd.func5
    (ChangeSpec.witness_shaped (enc := enc) (C := Tryd.checked) (os := os) (X := fun w _ => laidMetH Tryd.prog Rows.nodeHashesRow.laid w) false (World.doorLaid Tryd.prog 400 os) #[.agg #[.int .i64 0, .string ByteArray.empty, .string ByteArray.empty, .string ByteArray.empty, .string ByteArray.empty, .string ByteArray.empty, .string ByteArray.empty, .string ByteArray.empty, .string ByteArray.empty, .string ByteArray.empty, .string ByteArray.empty, .string ByteArray.empty, .string ByteArray.empty, .string ByteArray.empty, .string ByteArray.empty, .string ByteArray.empty, .string ByteArray.empty, .string ByteArray.empty, .string ByteArray.empty]] 8 rfl (World.shaped_of_RefB (by kernel_rfl) (by kernel_rfl)) (by kernel_rfl) (by kernel_rfl) (by kernel_rfl) (door_met os _)) ?_
  intro W base args ds gs before hval0 hW _ _ hL _
  have hval : ∀ (j : Nat) t v, Tryd.f5.params[j]? = some t → args[j]? = some v → Value.okWide Tryd.prog W .any base t v := hval0
  have hW' := hW
  obtain ⟨p, q, hA0, hV, rfl, hfz, hnd⟩ := hW
  have hA : DataW.TrodAll enc Tryd.prog W 0 (fun _ => true) true Tryd.f5.params.toList args.toList ds p := hA0
  rw [Tryd.params5] at hA hval
  obtain ⟨v0, vs0, d0, ds0, p0, q0, hargs, rfl, rfl, h0, r0⟩ := trodAll_cons hA
  obtain ⟨rfl, rfl, rfl⟩ := trodAll_nil r0
  obtain rfl : args = #[v0] := by cases args; simp_all
  obtain ⟨rfl, rfl⟩ := trodVars_none hV
  obtain ⟨a0, rfl, rfl, rfl, w0⟩ := open_nd (hval 0 25 v0 rfl rfl) h0
  have hl : LaidN W := laid_of hL
  clear hA0 hval0
  simp only [List.append_nil] at hW'
  refine (walk a0 w0 W hl).mono fun e W' ⟨he, bel⟩ => ?_
  subst he
  exact ⟨_, rfl, _, _, _, [], [], [], hW', trodAll_mk1 (shut_bool Tryd.underlying4 _), (trodAll_cons_mk (shut_nd w0) trodAll_mk0), rfl, bel.frame _, fun h => by cases h⟩
theorem over : Rows.NodeHashesSaid :=
  OpenClaim.holds_of_wide 5 Tryd.f5 rfl rfl rfl rfl rfl rfl rfl ⟨rfl, rfl, rfl, rfl, rfl⟩ rfl rfl rfl rfl rfl (by kernel_rfl) Tryd.func5 (by kernel_rfl)
    (of_decide_eq_true (by kernel_rfl)) (by unfold Func.isWrapper; rw [if_neg (by decide +kernel)]; exact ⟨rfl, rfl⟩)
    (fun os started H enc _ => lifted os started H enc)
theorem proved : Rows.NodeHashesCardSaid :=
  Claim7.holds_tied_plain_at .later [] [.data, .data, .handle] true Rows.nodeHashesCard.stood.harness true
    over (fun _ h => by cases h) (by kernel_rfl) (fun _ h => by cases h) nodeHashes_row_tie rfl ⟨rfl, rfl⟩ (by kernel_rfl) rfl
    (fun f fn hf hfn => by
      obtain rfl : f = 5 := Option.some.inj ((show Tryd.prog.funcNamed "guilloche/guillochelaw04.NodeHashes" = some 5 by kernel_rfl).symm.trans hf) |>.symm
      obtain rfl : fn = Tryd.f5 := (Option.some.inj (Tryd.func5.symm.trans hfn)).symm
      exact ⟨by kernel_rfl, fun j t ht => by
        rw [Tryd.params5] at ht
        have hm : t ∈ [25] := by simpa using Array.mem_of_getElem? ht
        have hall : ([25].all fun u => !Tryd.prog.wantsStandIn u) = true := by kernel_rfl
        exact (show Tryd.prog.wantsStandIn t = false by simpa using List.all_eq_true.1 hall t hm)⟩)
    (by kernel_rfl)
end Go.Proofs.YtljadanalcfdeaaDoor.nodeHashes

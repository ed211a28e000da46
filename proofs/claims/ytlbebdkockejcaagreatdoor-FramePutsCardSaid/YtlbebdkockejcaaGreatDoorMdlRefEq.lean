/-
  The document's answer: the same entries, the same changes (written by makers/mdlref5.py).
-/
import Derived.Test.YtlbebdkockejcaaGreatDoorMdlEq
namespace Go.Proofs.YtlbebdkockejcaaGreatDoor
open Go.RowKit Go.Proofs.Mdl
set_option linter.unusedVariables false
set_option linter.unusedSimpArgs false
set_option maxRecDepth 100000 in
set_option maxHeartbeats 4000000 in
theorem sameE_any {w : World} {va vb : Value} {la lb : List Ent} (h1 : Es w va la) (h2 : Es w vb lb) (hl : la.length ≤ 1000) :
    Calls Tryz.prog 55 #[va, vb] w fun e w' => e = .returned (.bool (decide (la = lb))) ∧ Below w.heap.size w w' := by
  have RA := Lib.hid h1
  have RB := Lib.hid h2
  obtain ⟨A1, c1, rfl⟩ := h1.shape
  obtain ⟨A2, c2, rfl⟩ := h2.shape
  clear h1 h2
  by_cases hlen : la.length = lb.length
  · go_enter Tryz.func55, Tryz.ntmps55
    have q0 : ((la.length : Int) != (lb.length : Int)) = false := by rw [hlen]; simp
    go_wp2_with fail
    go_loopw [5] (fun vi wr => ∃ k : Nat, vi = .int .i64 (k : Int) ∧ k ≤ la.length ∧ Hid (Below w.heap.size w wr) ∧ Hid (la.take k = lb.take k)) (fun vi _ => la.length - (intOf vi).toNat)
    case atStart => exact ⟨0, rfl, Nat.zero_le _, Lib.hid (Below.refl _ _), Lib.hid (by simp)⟩
    case round =>
      obtain ⟨k, rfl, hk, HB, HT⟩ := hrel
      by_cases hlt : k < la.length
      · obtain ⟨x, hx⟩ : ∃ x, la[k]? = some x := ⟨_, List.getElem?_eq_getElem hlt⟩
        obtain ⟨y, hy⟩ : ∃ y, lb[k]? = some y := ⟨_, List.getElem?_eq_getElem (by omega)⟩
        obtain ⟨b1, o1, c1', he1, hb1, p0, p1⟩ := (RA.out.below HB.out).at_ hx
        obtain ⟨b2, o2, c2', he2, hb2, q0, q1⟩ := (RB.out.below HB.out).at_ hy
        simp only [Value.slice.injEq] at he1 he2
        obtain ⟨rfl, -, -⟩ := he1
        obtain ⟨rfl, -, -⟩ := he2
        have SA : Hid (∀ W : World, Below wr.heap.size wr W → ∀ j v, (cellE x)[j]? = some v → W.cell? ⟨b1, (o1 + k * 2) + j, none⟩ = some v) := Lib.hid (fun W hW j v hj => by
          refine (hW.cell (p := ⟨b1, _, none⟩) hb1).trans ?_
          unfold cellE at hj
          match j, hj with
          | 0, hj => cases hj; exact p0
          | 1, hj => cases hj; exact p1
          | j + 2, hj => simp at hj)
        have SB : Hid (∀ W : World, Below wr.heap.size wr W → ∀ j v, (cellE y)[j]? = some v → W.cell? ⟨b2, (o2 + k * 2) + j, none⟩ = some v) := Lib.hid (fun W hW j v hj => by
          refine (hW.cell (p := ⟨b2, _, none⟩) hb2).trans ?_
          unfold cellE at hj
          match j, hj with
          | 0, hj => cases hj; exact q0
          | 1, hj => cases hj; exact q1
          | j + 2, hj => simp at hj)
        have IA := Lib.hid hlt
        have IB := Lib.hid (show k < lb.length by omega)
        have HX := Lib.hid hx
        have HY := Lib.hid hy
        have j1 : (k : Int) < (la.length : Int) := by omega
        have wk : IntKind.i64.wrap ((k : Int) + 1) = (k : Int) + 1 := IntWalk.i64_in _ (by omega)
        clear p0 q0 p1 q1 hx hy hb1 hb2
        obtain ⟨bq, hbq⟩ : ∃ bq, decide (¬ x = y) = bq := ⟨_, rfl⟩
        have QE := Lib.hid hbq
        clear hbq
        have HB0 := Lib.hid (Bl.start wr)
        go_upto_region 6 with (fail)
        refine Segs.wp_region_perm Segs.Hist [(0, false), (1, false), (2, false), (3, false), (4, false), (5, false), (6, false), (7, false), (8, false)] Segs.Hist.refl Segs.Hist.trans (by kernel_rfl) (by kernel_rfl) rfl (by kernel_rfl) (Segs.WP.out ?_)
        have B2 := Lib.hid HB0.out.drew
        generalize wr.drew = W1 at B2 ⊢
        refine Segs.WP.val 0 rfl (some 17) (.slice (some ⟨b1, o1, none⟩) la.length c1) rfl (by kernel_rfl) (fun WW h => by kernel_rfl) ?_
        simp only [Act.put, List.setIfInBounds_toArray, List.set_cons_zero, List.set_cons_succ]
        refine Segs.WP.val 1 rfl (some 18) (.int .i64 ((k : Int))) rfl (by kernel_rfl) (fun WW h => by kernel_rfl) ?_
        simp only [Act.put, List.setIfInBounds_toArray, List.set_cons_zero, List.set_cons_succ]
        refine Segs.WP.val 2 rfl (some 19) (.pointer (some ⟨b1, (o1 + k * 2), none⟩)) rfl (by kernel_rfl) (fun WW h => run_indexK elemEnt sizeEnt rfl b1 o1 la.length c1 k (by kernel_rfl) (by kernel_rfl) IA.out) ?_
        simp only [Act.put, List.setIfInBounds_toArray, List.set_cons_zero, List.set_cons_succ]
        refine Segs.WP.val 3 rfl (some 20) (.agg (arrE x)) rfl (by kernel_rfl) (fun WW h => run_ldE (.tmp 19) rfl b1 (o1 + k * 2) (by kernel_rfl) _ (SA.out _ (B2.out.call h).1)) ?_
        simp only [Act.put, List.setIfInBounds_toArray, List.set_cons_zero, List.set_cons_succ]
        refine Segs.WP.val 4 rfl (some 21) (.slice (some ⟨b2, o2, none⟩) lb.length c2) rfl (by kernel_rfl) (fun WW h => by kernel_rfl) ?_
        simp only [Act.put, List.setIfInBounds_toArray, List.set_cons_zero, List.set_cons_succ]
        refine Segs.WP.val 5 rfl (some 22) (.int .i64 ((k : Int))) rfl (by kernel_rfl) (fun WW h => by kernel_rfl) ?_
        simp only [Act.put, List.setIfInBounds_toArray, List.set_cons_zero, List.set_cons_succ]
        refine Segs.WP.val 6 rfl (some 23) (.pointer (some ⟨b2, (o2 + k * 2), none⟩)) rfl (by kernel_rfl) (fun WW h => run_indexK elemEnt sizeEnt rfl b2 o2 lb.length c2 k (by kernel_rfl) (by kernel_rfl) IB.out) ?_
        simp only [Act.put, List.setIfInBounds_toArray, List.set_cons_zero, List.set_cons_succ]
        refine Segs.WP.val 7 rfl (some 24) (.agg (arrE y)) rfl (by kernel_rfl) (fun WW h => run_ldE (.tmp 23) rfl b2 (o2 + k * 2) (by kernel_rfl) _ (SB.out _ (B2.out.call h).1)) ?_
        simp only [Act.put, List.setIfInBounds_toArray, List.set_cons_zero, List.set_cons_succ]
        refine Segs.WP.val 8 rfl (some 25) (.bool bq) rfl (by kernel_rfl) (fun WW h => run_neE rfl x y (by kernel_rfl) (by kernel_rfl) bq QE.out) ?_
        simp only [Act.put, List.setIfInBounds_toArray, List.set_cons_zero, List.set_cons_succ]
        refine Segs.WP.fin (fun W3 hx => ?_)
        have B4 := Lib.hid (B2.out.call hx)
        clear hx
        cases bq with
        | false =>
          go_wp2_with fail
          refine ⟨⟨k + 1, by go_num, by omega, Lib.hid (HB.out.trans ((far_of_below B4.out.1).below HB.out.size (fun _ e => e.elim))), Lib.hid ?_⟩, by simp [intOf]; omega⟩
          have he : x = y := by simpa using QE.out
          rw [List.take_add_one, List.take_add_one, HT.out, HX.out, HY.out, he]
        | true =>
          go_wp2_with fail
          go_ret
          have he : ¬ x = y := by simpa using QE.out
          refine ⟨retB (Eq.symm (decide_eq_false (fun e => he ?_))), HB.out.trans ((far_of_below B4.out.1).below HB.out.size (fun _ e => e.elim))⟩
          have := HX.out
          rw [e, HY.out] at this
          exact (Option.some.inj this).symm
      · obtain rfl : k = la.length := by omega
        go_wp2_with fail
        go_ret
        refine ⟨retB (Eq.symm (decide_eq_true ?_)), HB.out⟩
        have := HT.out
        rwa [List.take_length, hlen, List.take_length] at this
  · go_enter Tryz.func55, Tryz.ntmps55
    have q0 : ((la.length : Int) != (lb.length : Int)) = true := by simp; omega
    go_wp2_with fail
    go_ret
    exact ⟨retB (Eq.symm (decide_eq_false (fun e => hlen (by rw [e])))), Below.refl _ _⟩
set_option maxRecDepth 100000 in
set_option maxHeartbeats 4000000 in
theorem sameC_any {w : World} {va vb : Value} {la lb : List Chg} (h1 : Cs w va la) (h2 : Cs w vb lb) (hl : la.length ≤ 1000) :
    Calls Tryz.prog 56 #[va, vb] w fun e w' => e = .returned (.bool (decide (la = lb))) ∧ Below w.heap.size w w' := by
  have RA := Lib.hid h1
  have RB := Lib.hid h2
  obtain ⟨A1, c1, rfl⟩ := h1.shape
  obtain ⟨A2, c2, rfl⟩ := h2.shape
  clear h1 h2
  by_cases hlen : la.length = lb.length
  · go_enter Tryz.func56, Tryz.ntmps56
    have q0 : ((la.length : Int) != (lb.length : Int)) = false := by rw [hlen]; simp
    go_wp2_with fail
    go_loopw [5] (fun vi wr => ∃ k : Nat, vi = .int .i64 (k : Int) ∧ k ≤ la.length ∧ Hid (Below w.heap.size w wr) ∧ Hid (la.take k = lb.take k)) (fun vi _ => la.length - (intOf vi).toNat)
    case atStart => exact ⟨0, rfl, Nat.zero_le _, Lib.hid (Below.refl _ _), Lib.hid (by simp)⟩
    case round =>
      obtain ⟨k, rfl, hk, HB, HT⟩ := hrel
      by_cases hlt : k < la.length
      · obtain ⟨x, hx⟩ : ∃ x, la[k]? = some x := ⟨_, List.getElem?_eq_getElem hlt⟩
        obtain ⟨y, hy⟩ : ∃ y, lb[k]? = some y := ⟨_, List.getElem?_eq_getElem (by omega)⟩
        obtain ⟨b1, o1, c1', he1, hb1, p0, p1, p2⟩ := (RA.out.below HB.out).at_ hx
        obtain ⟨b2, o2, c2', he2, hb2, q0, q1, q2⟩ := (RB.out.below HB.out).at_ hy
        simp only [Value.slice.injEq] at he1 he2
        obtain ⟨rfl, -, -⟩ := he1
        obtain ⟨rfl, -, -⟩ := he2
        have SA : Hid (∀ W : World, Below wr.heap.size wr W → ∀ j v, (cellC x)[j]? = some v → W.cell? ⟨b1, (o1 + k * 3) + j, none⟩ = some v) := Lib.hid (fun W hW j v hj => by
          refine (hW.cell (p := ⟨b1, _, none⟩) hb1).trans ?_
          unfold cellC at hj
          match j, hj with
          | 0, hj => cases hj; exact p0
          | 1, hj => cases hj; exact p1
          | 2, hj => cases hj; exact p2
          | j + 3, hj => simp at hj)
        have SB : Hid (∀ W : World, Below wr.heap.size wr W → ∀ j v, (cellC y)[j]? = some v → W.cell? ⟨b2, (o2 + k * 3) + j, none⟩ = some v) := Lib.hid (fun W hW j v hj => by
          refine (hW.cell (p := ⟨b2, _, none⟩) hb2).trans ?_
          unfold cellC at hj
          match j, hj with
          | 0, hj => cases hj; exact q0
          | 1, hj => cases hj; exact q1
          | 2, hj => cases hj; exact q2
          | j + 3, hj => simp at hj)
        have IA := Lib.hid hlt
        have IB := Lib.hid (show k < lb.length by omega)
        have HX := Lib.hid hx
        have HY := Lib.hid hy
        have j1 : (k : Int) < (la.length : Int) := by omega
        have wk : IntKind.i64.wrap ((k : Int) + 1) = (k : Int) + 1 := IntWalk.i64_in _ (by omega)
        clear p0 q0 p1 q1 p2 q2 hx hy hb1 hb2
        obtain ⟨bq, hbq⟩ : ∃ bq, decide (¬ x = y) = bq := ⟨_, rfl⟩
        have QE := Lib.hid hbq
        clear hbq
        have HB0 := Lib.hid (Bl.start wr)
        go_upto_region 6 with (fail)
        refine Segs.wp_region_perm Segs.Hist [(0, false), (1, false), (2, false), (3, false), (4, false), (5, false), (6, false), (7, false), (8, false)] Segs.Hist.refl Segs.Hist.trans (by kernel_rfl) (by kernel_rfl) rfl (by kernel_rfl) (Segs.WP.out ?_)
        have B2 := Lib.hid HB0.out.drew
        generalize wr.drew = W1 at B2 ⊢
        refine Segs.WP.val 0 rfl (some 17) (.slice (some ⟨b1, o1, none⟩) la.length c1) rfl (by kernel_rfl) (fun WW h => by kernel_rfl) ?_
        simp only [Act.put, List.setIfInBounds_toArray, List.set_cons_zero, List.set_cons_succ]
        refine Segs.WP.val 1 rfl (some 18) (.int .i64 ((k : Int))) rfl (by kernel_rfl) (fun WW h => by kernel_rfl) ?_
        simp only [Act.put, List.setIfInBounds_toArray, List.set_cons_zero, List.set_cons_succ]
        refine Segs.WP.val 2 rfl (some 19) (.pointer (some ⟨b1, (o1 + k * 3), none⟩)) rfl (by kernel_rfl) (fun WW h => run_indexK elemChg sizeChg rfl b1 o1 la.length c1 k (by kernel_rfl) (by kernel_rfl) IA.out) ?_
        simp only [Act.put, List.setIfInBounds_toArray, List.set_cons_zero, List.set_cons_succ]
        refine Segs.WP.val 3 rfl (some 20) (.agg (arrC x)) rfl (by kernel_rfl) (fun WW h => run_ldC (.tmp 19) rfl b1 (o1 + k * 3) (by kernel_rfl) _ (SA.out _ (B2.out.call h).1)) ?_
        simp only [Act.put, List.setIfInBounds_toArray, List.set_cons_zero, List.set_cons_succ]
        refine Segs.WP.val 4 rfl (some 21) (.slice (some ⟨b2, o2, none⟩) lb.length c2) rfl (by kernel_rfl) (fun WW h => by kernel_rfl) ?_
        simp only [Act.put, List.setIfInBounds_toArray, List.set_cons_zero, List.set_cons_succ]
        refine Segs.WP.val 5 rfl (some 22) (.int .i64 ((k : Int))) rfl (by kernel_rfl) (fun WW h => by kernel_rfl) ?_
        simp only [Act.put, List.setIfInBounds_toArray, List.set_cons_zero, List.set_cons_succ]
        refine Segs.WP.val 6 rfl (some 23) (.pointer (some ⟨b2, (o2 + k * 3), none⟩)) rfl (by kernel_rfl) (fun WW h => run_indexK elemChg sizeChg rfl b2 o2 lb.length c2 k (by kernel_rfl) (by kernel_rfl) IB.out) ?_
        simp only [Act.put, List.setIfInBounds_toArray, List.set_cons_zero, List.set_cons_succ]
        refine Segs.WP.val 7 rfl (some 24) (.agg (arrC y)) rfl (by kernel_rfl) (fun WW h => run_ldC (.tmp 23) rfl b2 (o2 + k * 3) (by kernel_rfl) _ (SB.out _ (B2.out.call h).1)) ?_
        simp only [Act.put, List.setIfInBounds_toArray, List.set_cons_zero, List.set_cons_succ]
        refine Segs.WP.val 8 rfl (some 25) (.bool bq) rfl (by kernel_rfl) (fun WW h => run_neC rfl x y (by kernel_rfl) (by kernel_rfl) bq QE.out) ?_
        simp only [Act.put, List.setIfInBounds_toArray, List.set_cons_zero, List.set_cons_succ]
        refine Segs.WP.fin (fun W3 hx => ?_)
        have B4 := Lib.hid (B2.out.call hx)
        clear hx
        cases bq with
        | false =>
          go_wp2_with fail
          refine ⟨⟨k + 1, by go_num, by omega, Lib.hid (HB.out.trans ((far_of_below B4.out.1).below HB.out.size (fun _ e => e.elim))), Lib.hid ?_⟩, by simp [intOf]; omega⟩
          have he : x = y := by simpa using QE.out
          rw [List.take_add_one, List.take_add_one, HT.out, HX.out, HY.out, he]
        | true =>
          go_wp2_with fail
          go_ret
          have he : ¬ x = y := by simpa using QE.out
          refine ⟨retB (Eq.symm (decide_eq_false (fun e => he ?_))), HB.out.trans ((far_of_below B4.out.1).below HB.out.size (fun _ e => e.elim))⟩
          have := HX.out
          rw [e, HY.out] at this
          exact (Option.some.inj this).symm
      · obtain rfl : k = la.length := by omega
        go_wp2_with fail
        go_ret
        refine ⟨retB (Eq.symm (decide_eq_true ?_)), HB.out⟩
        have := HT.out
        rwa [List.take_length, hlen, List.take_length] at this
  · go_enter Tryz.func56, Tryz.ntmps56
    have q0 : ((la.length : Int) != (lb.length : Int)) = true := by simp; omega
    go_wp2_with fail
    go_ret
    exact ⟨retB (Eq.symm (decide_eq_false (fun e => hlen (by rw [e])))), Below.refl _ _⟩
end Go.Proofs.YtlbebdkockejcaaGreatDoor

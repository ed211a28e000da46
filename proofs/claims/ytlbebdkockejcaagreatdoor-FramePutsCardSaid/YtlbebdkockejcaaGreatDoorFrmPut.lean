/-
  Package frame: an ask as bytes (written by makers/frmput.py)
-/
import Derived.Test.YtlbebdkockejcaaGreatDoorFrmVal
import Derived.Test.YtlbebdkockejcaaGreatDoorGaFrB
import Derived.Test.YtlbebdkockejcaaGreatDoorGaItems
import Derived.Test.YtlbebdkockejcaaGreatDoorWalkG
import Derived.Deep.Cut
import Derived.Deep.CutBlock
namespace Go.Proofs.YtlbebdkockejcaaGreatDoor
open Go.RowKit Go.Proofs.Frm Go.Proofs.Mdl
set_option linter.unusedVariables false
set_option linter.unusedSimpArgs false
theorem run_succF {o : Oper} {a : Act} {W : World} {x y : Operand} (ho : o.op = .binOp .add 3 x y 3) (l : Int) (hx : a.eval x = .int .i64 l) (hy : a.eval y = .int .i64 1) (hm : -1 ≤ l ∧ l ≤ 1000000000) :
    (execOp a.eval o).run Tryz.prog W = .ok (.value (.int .i64 (l + 1))) W := by
  unfold execOp
  simp only [ho, hx, hy]
  have h : (IntKind.i64.wrap (l + 1)) = l + 1 := IntWalk.i64_in _ (by omega)
  simp [go_sem, h]
/-- A list of items that stand in a block. -/
theorem list_lit (xs : List ByteArray) (b : Nat) (W : World) (h : Blk W b 9 (xs.map Value.string).toArray) (hn : xs.length ≤ 100) (hs : (dat xs).flatten.length ≤ 1048576) :
    Calls Tryz.prog 28 #[.slice (some ⟨b, 0, none⟩) xs.length xs.length] W fun e w' => e = .returned (.string (Nod.listB xs)) ∧ Below W.heap.size W w' :=
  list_any b 0 xs.length xs W (fun j z hx => by
    rw [Nat.zero_add, h.cell, List.getElem?_toArray, List.getElem?_map, hx]
    rfl) h.lt (by omega) (Nat.le_refl _) (by exact Nat.le_trans hs (by decide))
/-- A list of items that stand in a row. -/
theorem list_own {xs : List ByteArray} {base : Nat} {v : Value} {W : World} (h : W.ownsRow base 9 1 v xs.length (xs.map Value.string)) (hn : xs.length ≤ 1000) (hs : (dat xs).flatten.length ≤ 1048576) :
    Calls Tryz.prog 28 #[v] W fun e w' => e = .returned (.string (Nod.listB xs)) ∧ Below W.heap.size W w' := by
  rcases h.2 with ⟨rfl, h2⟩ | ⟨k, cap, cur, rfl, hb, hg, hle, hcap, hs2, ht⟩
  · obtain rfl := List.length_eq_zero_iff.1 h2
    exact list_none none 0 W
  · refine list_any k 0 cap xs W (fun j z hx => ?_) (Array.getElem?_eq_some_iff.1 hg).1 (by omega) hle (by exact Nat.le_trans hs (by decide))
    have hlt := (List.getElem?_eq_some_iff.1 hx).1
    have e : (cur.toList.take (xs.length * 1))[j]? = some (.string z) := by rw [ht, List.getElem?_map, hx]; rfl
    rw [List.getElem?_take_of_lt (by omega)] at e
    simp only [World.cell?, hg, Nat.zero_add]
    simpa using e
set_option maxRecDepth 100000 in
set_option maxHeartbeats 4000000 in
/-- PutAsk. -/
theorem putAsk_any (a : Frm.Ask) (w : World) :
    Calls Tryz.prog 7 #[.agg (cellA a).toArray] w fun e w' => e = .returned (.tuple #[.string (if validA a then putA a else z0), .int .i64 (if validA a then 0 else 1)]) ∧ Below w.heap.size w w' := by
  have VA := Lib.hid (fun W => validAsk_any a W)
  rcases hv : validA a with _ | _
  · rw [hv] at VA
    unfold cellA at *
    simp only [Bool.false_eq_true, if_false]
    clear hv
    go_enter Tryz.func7, Tryz.ntmps7
    go_wp2_with (first
      | (go_at_call 16; refine (VA.out _).mono ?_; rintro e w1 ⟨rfl, hb⟩; have B1 := Lib.hid hb; clear hb))
    go_ret2
    exact ⟨rfl, ((Below.refl _ _).alloc (Nat.le_refl _) _).trans (B1.out.mono (by simp))⟩
  · rw [hv] at VA
    have f := factsA hv
    have hd := itemsA_dat f
    have hp : putA a = Nod.listB (itemsA a) := rfl
    rw [hp]
    simp only [if_true]
    clear hv hp
    obtain ⟨x1, x2, x3, x4, x5, x6, x7⟩ := a
    unfold itemsA at hd ⊢
    unfold cellA at *
    obtain ⟨k0, k1, s0, s1, q0, q1, t0, t1, l0, l1, hx, hy⟩ := f
    simp only at k0 k1 s0 s1 q0 q1 t0 t1 l0 l1 hx hy hd VA ⊢
    have C0 := Lib.hid (fun W => number_any 0 W (by decide) (by decide))
    have C1 := Lib.hid (fun W => number_any x1 W k0 (by omega))
    have C2 := Lib.hid (fun W => number_any x2 W s0 (by omega))
    have C3 := Lib.hid (fun W => number_any x3 W q0 (by omega))
    have C4 := Lib.hid (fun W => number_any (x4 + 1) W (by omega) (by omega))
    have C5 := Lib.hid (fun W => text_any x5 W (by omega))
    have C6 := Lib.hid (fun W => text_any x6 W (by omega))
    have C7 := Lib.hid (fun W => number_any x7 W l0 (by omega))
    rw [show Nib.bs (Rlp.text x5.data.toList) = Nod.textB x5 from rfl] at C5
    rw [show Nib.bs (Rlp.text x6.data.toList) = Nod.textB x6 from rfl] at C6
    obtain ⟨S0, hS0⟩ : ∃ q, q = numZ 0 := ⟨_, rfl⟩
    obtain ⟨S1, hS1⟩ : ∃ q, q = numZ x1 := ⟨_, rfl⟩
    obtain ⟨S2, hS2⟩ : ∃ q, q = numZ x2 := ⟨_, rfl⟩
    obtain ⟨S3, hS3⟩ : ∃ q, q = numZ x3 := ⟨_, rfl⟩
    obtain ⟨S4, hS4⟩ : ∃ q, q = numZ (x4 + 1) := ⟨_, rfl⟩
    obtain ⟨S5, hS5⟩ : ∃ q, q = Nod.textB x5 := ⟨_, rfl⟩
    obtain ⟨S6, hS6⟩ : ∃ q, q = Nod.textB x6 := ⟨_, rfl⟩
    obtain ⟨S7, hS7⟩ : ∃ q, q = numZ x7 := ⟨_, rfl⟩
    simp only [← hS0, ← hS1, ← hS2, ← hS3, ← hS4, ← hS5, ← hS6, ← hS7] at C0 C1 C2 C3 C4 C5 C6 C7 hd ⊢
    have HD := Lib.hid hd
    have X4 : Hid (-1 ≤ x4 ∧ x4 ≤ 1000000000) := Lib.hid ⟨t0, by omega⟩
    clear hd hS0 hS1 hS2 hS3 hS4 hS5 hS6 hS7 k0 k1 s0 s1 q0 q1 t0 t1 l0 l1 hx hy
    obtain ⟨w0, N, hw, hN, hb0, k0, hz⟩ := box_new w 23 #[.int .i64 x1, .int .i64 x2, .int .i64 x3, .int .i64 x4, .string x5, .string x6, .int .i64 x7]
    have B0 := Lib.hid hb0
    have K0 := Lib.hid k0
    clear hb0 k0 hz
    go_enter Tryz.func7, Tryz.ntmps7
    go_upto_region 1 with (fail)
    rw [← hw, ← hN]
    clear hw hN
    have c0 := K0.out.cell 0
    have c1 := K0.out.cell 1
    have c2 := K0.out.cell 2
    have c3 := K0.out.cell 3
    have c4 := K0.out.cell 4
    have c5 := K0.out.cell 5
    have c6 := K0.out.cell 6
    simp only [List.getElem?_toArray, List.getElem?_cons_succ, List.getElem?_cons_zero] at c0 c1 c2 c3 c4 c5 c6
    go_upto_region 3 with (go_at_call 16; refine (VA.out _).mono ?_; rintro e w1 ⟨rfl, hb⟩; have B1 := Lib.hid (B0.out.trans (hb.mono B0.out.size)); have K1 := Lib.hid (K0.out.below hb); clear hb)
    clear c0 c1 c2 c3 c4 c5 c6
    refine Segs.wp_region_last (fun WW => Blk WW N 23 #[.int .i64 x1, .int .i64 x2, .int .i64 x3, .int .i64 x4, .string x5, .string x6, .int .i64 x7]) [(1, false), (2, false), (4, false), (5, false), (7, false), (8, false), (10, false), (11, false), (12, false), (14, false), (15, false), (17, false), (18, false), (20, false), (21, false), (0, true), (3, true), (6, true), (9, true), (13, true), (16, true), (19, true), (22, true), (23, true), (24, true), (25, true), (26, true)] (by kernel_rfl) (by kernel_rfl) (by kernel_rfl) rfl (by kernel_rfl) (by exact K1.out) ?_
    have K2 : Hid (Blk w1.drew N 23 #[.int .i64 x1, .int .i64 x2, .int .i64 x3, .int .i64 x4, .string x5, .string x6, .int .i64 x7]) := Lib.hid (by exact K1.out)
    have B3 := Lib.hid (B1.out.drew)
    generalize w1.drew = W1 at K2 B3 ⊢
    refine Segs.WQ.val 1 rfl (some 8) (.pointer (some ⟨N, 0, none⟩)) rfl (by kernel_rfl) (fun WW hG => by kernel_rfl) ?_
    simp only [Act.put, List.setIfInBounds_toArray, List.set_cons_zero, List.set_cons_succ]
    refine Segs.WQ.val 2 rfl (some 9) (.int .i64 x1) rfl (by kernel_rfl) (fun WW hG => Segs.run_cell 3 (.tmp 8) rfl N 0 (by kernel_rfl) _ (isAggInt _) (by rw [hG.cell]; rfl)) ?_
    simp only [Act.put, List.setIfInBounds_toArray, List.set_cons_zero, List.set_cons_succ]
    refine Segs.WQ.val 4 rfl (some 11) (.pointer (some ⟨N, 1, none⟩)) rfl (by kernel_rfl) (fun WW hG => by kernel_rfl) ?_
    simp only [Act.put, List.setIfInBounds_toArray, List.set_cons_zero, List.set_cons_succ]
    refine Segs.WQ.val 5 rfl (some 12) (.int .i64 x2) rfl (by kernel_rfl) (fun WW hG => Segs.run_cell 3 (.tmp 11) rfl N 1 (by kernel_rfl) _ (isAggInt _) (by rw [hG.cell]; rfl)) ?_
    simp only [Act.put, List.setIfInBounds_toArray, List.set_cons_zero, List.set_cons_succ]
    refine Segs.WQ.val 7 rfl (some 14) (.pointer (some ⟨N, 2, none⟩)) rfl (by kernel_rfl) (fun WW hG => by kernel_rfl) ?_
    simp only [Act.put, List.setIfInBounds_toArray, List.set_cons_zero, List.set_cons_succ]
    refine Segs.WQ.val 8 rfl (some 15) (.int .i64 x3) rfl (by kernel_rfl) (fun WW hG => Segs.run_cell 3 (.tmp 14) rfl N 2 (by kernel_rfl) _ (isAggInt _) (by rw [hG.cell]; rfl)) ?_
    simp only [Act.put, List.setIfInBounds_toArray, List.set_cons_zero, List.set_cons_succ]
    refine Segs.WQ.val 10 rfl (some 17) (.pointer (some ⟨N, 3, none⟩)) rfl (by kernel_rfl) (fun WW hG => by kernel_rfl) ?_
    simp only [Act.put, List.setIfInBounds_toArray, List.set_cons_zero, List.set_cons_succ]
    refine Segs.WQ.val 11 rfl (some 18) (.int .i64 x4) rfl (by kernel_rfl) (fun WW hG => Segs.run_cell 3 (.tmp 17) rfl N 3 (by kernel_rfl) _ (isAggInt _) (by rw [hG.cell]; rfl)) ?_
    simp only [Act.put, List.setIfInBounds_toArray, List.set_cons_zero, List.set_cons_succ]
    refine Segs.WQ.val 12 rfl (some 19) (.int .i64 (x4 + 1)) rfl (by kernel_rfl) (fun WW hG => run_succF rfl x4 (by kernel_rfl) (by kernel_rfl) X4.out) ?_
    simp only [Act.put, List.setIfInBounds_toArray, List.set_cons_zero, List.set_cons_succ]
    refine Segs.WQ.val 14 rfl (some 21) (.pointer (some ⟨N, 4, none⟩)) rfl (by kernel_rfl) (fun WW hG => by kernel_rfl) ?_
    simp only [Act.put, List.setIfInBounds_toArray, List.set_cons_zero, List.set_cons_succ]
    refine Segs.WQ.val 15 rfl (some 22) (.string x5) rfl (by kernel_rfl) (fun WW hG => Segs.run_cell 9 (.tmp 21) rfl N 4 (by kernel_rfl) _ (isAggStr _) (by rw [hG.cell]; rfl)) ?_
    simp only [Act.put, List.setIfInBounds_toArray, List.set_cons_zero, List.set_cons_succ]
    refine Segs.WQ.val 17 rfl (some 24) (.pointer (some ⟨N, 5, none⟩)) rfl (by kernel_rfl) (fun WW hG => by kernel_rfl) ?_
    simp only [Act.put, List.setIfInBounds_toArray, List.set_cons_zero, List.set_cons_succ]
    refine Segs.WQ.val 18 rfl (some 25) (.string x6) rfl (by kernel_rfl) (fun WW hG => Segs.run_cell 9 (.tmp 24) rfl N 5 (by kernel_rfl) _ (isAggStr _) (by rw [hG.cell]; rfl)) ?_
    simp only [Act.put, List.setIfInBounds_toArray, List.set_cons_zero, List.set_cons_succ]
    refine Segs.WQ.val 20 rfl (some 27) (.pointer (some ⟨N, 6, none⟩)) rfl (by kernel_rfl) (fun WW hG => by kernel_rfl) ?_
    simp only [Act.put, List.setIfInBounds_toArray, List.set_cons_zero, List.set_cons_succ]
    refine Segs.WQ.val 21 rfl (some 28) (.int .i64 x7) rfl (by kernel_rfl) (fun WW hG => Segs.run_cell 3 (.tmp 27) rfl N 6 (by kernel_rfl) _ (isAggInt _) (by rw [hG.cell]; rfl)) ?_
    simp only [Act.put, List.setIfInBounds_toArray, List.set_cons_zero, List.set_cons_succ]
    refine Segs.WQ.acall 0 rfl (some 7) 29 #[.int .i64 0] _ rfl rfl (fun W => by kernel_rfl) (C0.out W1) (fun e W4 hR => ?_)
    obtain ⟨rfl, hb⟩ := hR
    refine ⟨_, rfl, fun _ => K2.out.below hb, ?_⟩
    simp only [Act.put, List.setIfInBounds_toArray, List.set_cons_zero, List.set_cons_succ]
    have K5 := Lib.hid (K2.out.below hb)
    have B6 := Lib.hid (B3.out.trans (hb.mono B3.out.size))
    clear hb
    refine Segs.WQ.acall 3 rfl (some 10) 29 #[.int .i64 x1] _ rfl rfl (fun W => by kernel_rfl) (C1.out W4) (fun e W7 hR => ?_)
    obtain ⟨rfl, hb⟩ := hR
    refine ⟨_, rfl, fun _ => K5.out.below hb, ?_⟩
    simp only [Act.put, List.setIfInBounds_toArray, List.set_cons_zero, List.set_cons_succ]
    have K8 := Lib.hid (K5.out.below hb)
    have B9 := Lib.hid (B6.out.trans (hb.mono B6.out.size))
    clear hb
    refine Segs.WQ.acall 6 rfl (some 13) 29 #[.int .i64 x2] _ rfl rfl (fun W => by kernel_rfl) (C2.out W7) (fun e W10 hR => ?_)
    obtain ⟨rfl, hb⟩ := hR
    refine ⟨_, rfl, fun _ => K8.out.below hb, ?_⟩
    simp only [Act.put, List.setIfInBounds_toArray, List.set_cons_zero, List.set_cons_succ]
    have K11 := Lib.hid (K8.out.below hb)
    have B12 := Lib.hid (B9.out.trans (hb.mono B9.out.size))
    clear hb
    refine Segs.WQ.acall 9 rfl (some 16) 29 #[.int .i64 x3] _ rfl rfl (fun W => by kernel_rfl) (C3.out W10) (fun e W13 hR => ?_)
    obtain ⟨rfl, hb⟩ := hR
    refine ⟨_, rfl, fun _ => K11.out.below hb, ?_⟩
    simp only [Act.put, List.setIfInBounds_toArray, List.set_cons_zero, List.set_cons_succ]
    have K14 := Lib.hid (K11.out.below hb)
    have B15 := Lib.hid (B12.out.trans (hb.mono B12.out.size))
    clear hb
    refine Segs.WQ.acall 13 rfl (some 20) 29 #[.int .i64 (x4 + 1)] _ rfl rfl (fun W => by kernel_rfl) (C4.out W13) (fun e W16 hR => ?_)
    obtain ⟨rfl, hb⟩ := hR
    refine ⟨_, rfl, fun _ => K14.out.below hb, ?_⟩
    simp only [Act.put, List.setIfInBounds_toArray, List.set_cons_zero, List.set_cons_succ]
    have K17 := Lib.hid (K14.out.below hb)
    have B18 := Lib.hid (B15.out.trans (hb.mono B15.out.size))
    clear hb
    refine Segs.WQ.acall 16 rfl (some 23) 30 #[.string x5] _ rfl rfl (fun W => by kernel_rfl) (C5.out W16) (fun e W19 hR => ?_)
    obtain ⟨rfl, hb⟩ := hR
    refine ⟨_, rfl, fun _ => K17.out.below hb, ?_⟩
    simp only [Act.put, List.setIfInBounds_toArray, List.set_cons_zero, List.set_cons_succ]
    have K20 := Lib.hid (K17.out.below hb)
    have B21 := Lib.hid (B18.out.trans (hb.mono B18.out.size))
    clear hb
    refine Segs.WQ.acall 19 rfl (some 26) 30 #[.string x6] _ rfl rfl (fun W => by kernel_rfl) (C6.out W19) (fun e W22 hR => ?_)
    obtain ⟨rfl, hb⟩ := hR
    refine ⟨_, rfl, fun _ => K20.out.below hb, ?_⟩
    simp only [Act.put, List.setIfInBounds_toArray, List.set_cons_zero, List.set_cons_succ]
    have K23 := Lib.hid (K20.out.below hb)
    have B24 := Lib.hid (B21.out.trans (hb.mono B21.out.size))
    clear hb
    refine Segs.WQ.acall 22 rfl (some 29) 29 #[.int .i64 x7] _ rfl rfl (fun W => by kernel_rfl) (C7.out W22) (fun e W25 hR => ?_)
    obtain ⟨rfl, hb⟩ := hR
    refine ⟨_, rfl, fun _ => K23.out.below hb, ?_⟩
    simp only [Act.put, List.setIfInBounds_toArray, List.set_cons_zero, List.set_cons_succ]
    have K26 := Lib.hid (K23.out.below hb)
    have B27 := Lib.hid (B24.out.trans (hb.mono B24.out.size))
    clear hb
    obtain ⟨r28, hr28⟩ : ∃ n, n = W25.heap.size := ⟨_, rfl⟩
    refine Segs.WQ.aval 23 rfl (some 30) (.slice (some ⟨r28, 0, none⟩) 8 8) (W25.alloc (.cells #[.string S0, .string S1, .string S2, .string S3, .string S4, .string S5, .string S6, .string S7] 9)) rfl rfl (by rw [hr28]; exact Segs.run_slice_of 60 9 8 _ rfl _ Tryz.underlying60 (by kernel_rfl)) (fun _ => K26.out.alloc _) ?_
    simp only [Act.put, List.setIfInBounds_toArray, List.set_cons_zero, List.set_cons_succ]
    have K30 := Lib.hid (K26.out.alloc (.cells #[.string S0, .string S1, .string S2, .string S3, .string S4, .string S5, .string S6, .string S7] 9))
    have B31 := Lib.hid (B27.out.alloc B27.out.size (.cells #[.string S0, .string S1, .string S2, .string S3, .string S4, .string S5, .string S6, .string S7] 9))
    have Q32 := Lib.hid (by have := Blk.new W25 9 #[.string S0, .string S1, .string S2, .string S3, .string S4, .string S5, .string S6, .string S7]; rw [← hr28] at this; exact this)
    generalize W25.alloc (.cells #[.string S0, .string S1, .string S2, .string S3, .string S4, .string S5, .string S6, .string S7] 9) = W29 at K30 B31 Q32 ⊢
    clear hr28
    refine Segs.WQ.acall 24 rfl (some 31) 28 #[.slice (some ⟨r28, 0, none⟩) 8 8] _ rfl rfl (fun W => by kernel_rfl) (list_lit [S0, S1, S2, S3, S4, S5, S6, S7] r28 W29 Q32.out (by simp) (Nat.le_trans HD.out (by decide))) (fun e W33 hR => ?_)
    obtain ⟨rfl, hb⟩ := hR
    refine ⟨_, rfl, fun _ => K30.out.below hb, ?_⟩
    simp only [Act.put, List.setIfInBounds_toArray, List.set_cons_zero, List.set_cons_succ]
    have K34 := Lib.hid (K30.out.below hb)
    have B35 := Lib.hid (B31.out.trans (hb.mono B31.out.size))
    clear hb
    refine Segs.WQ.aval 25 rfl (some 2) (.string (Nod.listB [S0, S1, S2, S3, S4, S5, S6, S7])) W33 rfl rfl (by kernel_rfl) (fun _ => K34.out) ?_
    simp only [Act.put, List.setIfInBounds_toArray, List.set_cons_zero, List.set_cons_succ]
    refine Segs.WQ.aval 26 rfl (some 3) (.int .i64 0) W33 rfl rfl (by kernel_rfl) (fun _ => K34.out) ?_
    simp only [Act.put, List.setIfInBounds_toArray, List.set_cons_zero, List.set_cons_succ]
    refine Segs.WQ.fin ?_
    go_wp2_with fail
    go_ret2
    exact ⟨rfl, B35.out⟩
end Go.Proofs.YtlbebdkockejcaaGreatDoor

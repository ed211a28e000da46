/-
  Merged: FrmRf5, FrmRf6.
-/
import Derived.Test.YtlbebdkockejcaaGreatDoorGaFrR
import Derived.Test.YtlbebdkockejcaaGreatDoorFrmPut2
import Derived.LoopIn
import Derived.Handy
namespace Go.Proofs.YtlbebdkockejcaaGreatDoor
open Go.RowKit Go.Proofs.Frm Go.Proofs.Mdl
set_option linter.unusedVariables false
set_option linter.unusedSimpArgs false
theorem isAggEnts (w : World) : (isAgg 25).run Tryz.prog w = .ok false w := by kernel_rfl
/-- A box, and an element of a slice. -/
structure GEnt (N : Nat) (T : TypeId) (cs : Array Value) (b p : Nat) (xs : List Value) (W : World) : Prop where
  blk : Blk W N T cs
  lt : b < W.heap.size
  at_ : ∀ j x, xs[j]? = some x → W.cell? ⟨b, p + j, none⟩ = some x
section
variable {N : Nat} {T : TypeId} {cs : Array Value} {b p : Nat} {xs : List Value} {W W' : World}
theorem GEnt.below (h : GEnt N T cs b p xs W) (hb : Below W.heap.size W W') : GEnt N T cs b p xs W' := ⟨h.blk.below hb, Nat.lt_of_lt_of_le h.lt hb.size, fun j x hx => (hb.cell (p := ⟨b, p + j, none⟩) h.lt).trans (h.at_ j x hx)⟩
theorem GEnt.drew (h : GEnt N T cs b p xs W) : GEnt N T cs b p xs W.drew := h.below (Below.refl _ _).drew
theorem GEnt.alloc (h : GEnt N T cs b p xs W) (o : Obj) : GEnt N T cs b p xs (W.alloc o) := h.below ((Below.refl _ _).alloc (Nat.le_refl _) _)
theorem GEnt.grown (h : GEnt N T cs b p xs W) {r : Option Nat} (k : W.grownBy W' r) (hr : ∀ i, r = some i → i ≠ N ∧ i ≠ b) : GEnt N T cs b p xs W' :=
  ⟨h.blk.grown k (fun e => (hr N e).1 rfl), Nat.lt_of_lt_of_le h.lt k.size, fun j x hx => (World.cell?_of_block (w := W) (k.block b h.lt (fun e => (hr b e.symm).2 rfl))).trans (h.at_ j x hx)⟩
end
set_option maxRecDepth 100000 in
set_option maxHeartbeats 8000000 in
theorem rputReply_any {w : World} {v : Value} {r : Frm.Rep} (h : Es w v r.entries) (hl0 : r.entries.length ≤ 1000) :
    Calls Tryz.prog 10 #[.agg (cellR r v).toArray] w fun e w' => e = .returned (.tuple #[.string (if validR r then putR r else z0), .int .i64 (if validR r then 0 else 1)]) ∧ Below w.heap.size w w' := by
  have VA := Lib.hid (fun W hW => rvalidReply_any (w := W) (v := v) (r := r) (h.below hW) hl0)
  obtain ⟨A, c, rfl⟩ := h.shape
  rcases hv : validR r with _ | _
  · rw [hv] at VA
    unfold cellR at *
    simp only [Bool.false_eq_true, if_false]
    clear hv hl0
    go_enter Tryz.func10, Tryz.ntmps10
    go_wp2_with (first
      | (go_at_call 14; refine (VA.out _ ((Below.refl _ _).alloc (Nat.le_refl _) _)).mono ?_; rintro e w1 ⟨rfl, hb⟩; have B1 := Lib.hid hb; clear hb))
    go_ret2
    exact ⟨rfl, ((Below.refl _ _).alloc (Nat.le_refl _) _).trans (B1.out.mono (by simp))⟩
  · rw [hv] at VA
    have f := factsR hv
    have hd := itemsR_dat f
    have hp : putR r = Nod.listB (itemsR r) := rfl
    rw [hp]
    simp only [if_true]
    clear hv hp hl0
    obtain ⟨x1, x2, x3, x4, x5, l, x7, x8⟩ := r
    unfold itemsR at hd ⊢
    unfold cellR at *
    obtain ⟨s0, s1, q0, q1, e0, e1, v0, v1, ht, hp, hl, ha⟩ := f
    simp only at s0 s1 q0 q1 e0 e1 v0 v1 ht hp hl ha hd h VA ⊢
    have C0 := Lib.hid (fun W => rnumz_any 1 W (by decide) (by decide))
    have C1 := Lib.hid (fun W => rnumz_any x1 W s0 (by omega))
    have C2 := Lib.hid (fun W => rnumz_any x2 W q0 (by omega))
    have C3 := Lib.hid (fun W => rnumz_any x3 W e0 (by omega))
    have C4 := Lib.hid (fun W => rnumz_any x4 W v0 (by omega))
    have C5 := Lib.hid (fun W => rtext_any x5 W (by omega))
    have C7 := Lib.hid (fun W => rtext_any x7 W (by omega))
    have C8 := Lib.hid (fun W => rbit_any x8 W)
    have hlist : (dat (l.map entB)).flatten.length ≤ 1000000 := Nat.le_trans (ents_dat l ha hl) (by decide)
    obtain ⟨S0, hS0⟩ : ∃ q, q = numZ 1 := ⟨_, rfl⟩
    obtain ⟨S1, hS1⟩ : ∃ q, q = numZ x1 := ⟨_, rfl⟩
    obtain ⟨S2, hS2⟩ : ∃ q, q = numZ x2 := ⟨_, rfl⟩
    obtain ⟨S3, hS3⟩ : ∃ q, q = numZ x3 := ⟨_, rfl⟩
    obtain ⟨S4, hS4⟩ : ∃ q, q = numZ x4 := ⟨_, rfl⟩
    obtain ⟨S5, hS5⟩ : ∃ q, q = Nod.textB x5 := ⟨_, rfl⟩
    obtain ⟨S6, hS6⟩ : ∃ q, q = Nod.listB (l.map entB) := ⟨_, rfl⟩
    obtain ⟨S7, hS7⟩ : ∃ q, q = Nod.textB x7 := ⟨_, rfl⟩
    obtain ⟨S8, hS8⟩ : ∃ q, q = flagB x8 := ⟨_, rfl⟩
    simp only [← hS0, ← hS1, ← hS2, ← hS3, ← hS4, ← hS5, ← hS6, ← hS7, ← hS8] at C0 C1 C2 C3 C4 C5 C7 C8 hd ⊢
    obtain ⟨z, hz⟩ : ∃ z, z = l.length := ⟨_, rfl⟩
    rw [← hz] at h VA
    have nz : z ≤ 80 := by omega
    have HZ := Lib.hid hz
    have HE := Lib.hid h
    have HD := Lib.hid hd
    have HLI := Lib.hid hlist
    have SM := Lib.hid (fun x hx => List.all_eq_true.1 ha x hx)
    have HSL := Lib.hid hS6
    clear hd hlist hz h s0 s1 q0 q1 e0 e1 v0 v1 ht hp hl ha hS0 hS1 hS2 hS3 hS4 hS5 hS7 hS8
    obtain ⟨w0, N, hw, hN, hb0, k0, hz0⟩ := box_new w 27 #[.int .i64 x1, .int .i64 x2, .int .i64 x3, .int .i64 x4, .string x5, .slice A z c, .string x7, .bool x8]
    have B0 := Lib.hid hb0
    have K0 := Lib.hid k0
    clear hb0 k0 hz0
    rw [← HZ.out]
    go_enter Tryz.func10, Tryz.ntmps10
    go_upto_region 1 with (fail)
    rw [← hw, ← hN]
    clear hw hN
    have c0 := K0.out.cell 0
    have c1 := K0.out.cell 1
    have c2 := K0.out.cell 2
    have c3 := K0.out.cell 3
    have c4 := K0.out.cell 4
    have c5 := K0.out.cell 5
    have c6 := K0.out.cell 6
    have c7 := K0.out.cell 7
    simp only [List.getElem?_toArray, List.getElem?_cons_succ, List.getElem?_cons_zero] at c0 c1 c2 c3 c4 c5 c6 c7
    go_upto_region 3 with (go_at_call 14; refine (VA.out _ B0.out).mono ?_; rintro e w1 ⟨rfl, hb⟩; have B1 := Lib.hid (B0.out.trans (hb.mono B0.out.size)); have K1 := Lib.hid (K0.out.below hb); clear hb)
    clear c0 c1 c2 c3 c4 c5 c6 c7
    have HE1 := Lib.hid (HE.out.below B1.out)
    go_wp2_with fail
    go_loopw [4, 5] (fun v4 vi wr => ∃ (k : Nat) (u : Value), u = v4 ∧ vi = .int .i64 (k : Int) ∧ k ≤ z ∧ Hid (wr.ownsRow w1.heap.size 9 1 u ((l.take k).map entB).length (((l.take k).map entB).map Value.string)) ∧ Hid (Below w1.heap.size w1 wr)) (fun _ vi _ => z - (intOf vi).toNat)
    case atStart => exact ⟨0, _, rfl, rfl, Nat.zero_le _, Lib.hid ⟨rfl, .inl ⟨rfl, rfl⟩⟩, Lib.hid (Below.refl _ _)⟩
    case round =>
      obtain ⟨k, u, rfl, rfl, hk, OD, HB⟩ := hrel
      have KR := Lib.hid (K1.out.below HB.out)
      have cs := KR.out.cell 5
      simp only [List.getElem?_toArray, List.getElem?_cons_succ, List.getElem?_cons_zero] at cs
      by_cases hlt : k < z
      · obtain ⟨x, hx⟩ : ∃ x, l[k]? = some x := ⟨_, List.getElem?_eq_getElem (by rw [← HZ.out]; exact hlt)⟩
        obtain ⟨b1, o1, c1, hv1, hbl1, -⟩ := HE1.out.at_ hx
        obtain ⟨b, o, c', hv, hbl, d0, d1⟩ := (HE1.out.below HB.out).at_ hx
        simp only [Value.slice.injEq] at hv
        obtain ⟨rfl, -, -⟩ := hv
        have hbb : b < w1.heap.size := by simp only [Value.slice.injEq, Option.some.injEq, Addr.mk.injEq] at hv1; omega
        clear hv1 hbl1
        have HBB := Lib.hid hbb
        clear hbb
        have STEP := Lib.hid (map_step entB hx)
        have hsm := SM.out x (List.mem_of_getElem? hx)
        have hed := entB_dat x hsm
        simp only [smallE, Bool.and_eq_true, decide_eq_true_eq] at hsm
        have T1 := Lib.hid (fun W => rtext_any x.k W (by omega))
        have T2 := Lib.hid (fun W => rtext_any x.v W (by omega))
        have HED := Lib.hid hed
        have i1 : (k : Int) < (z : Int) := by omega
        have wk : IntKind.i64.wrap ((k : Int) + 1) = (k : Int) + 1 := IntWalk.i64_in _ (by omega)
        have IA := Lib.hid hlt
        have NK := Lib.hid (show ((l.take k).map entB).length ≤ 80 by rw [List.length_map, List.length_take]; omega)
        have VB : Hid (∀ i, u.ownBlock = some i → w1.heap.size ≤ i ∧ i < wr.heap.size) := Lib.hid (fun i hi => OD.out.lt i hi)
        obtain ⟨y1, hy1⟩ : ∃ y, y = Nod.textB x.k := ⟨_, rfl⟩
        obtain ⟨y2, hy2⟩ : ∃ y, y = Nod.textB x.v := ⟨_, rfl⟩
        have HY : entB x = Nod.listB [y1, y2] := by unfold entB; rw [hy1, hy2]
        simp only [← hy1, ← hy2] at T1 T2 HED
        have HYY := Lib.hid HY
        have HSm : Tryz.prog.underlying 25 = some (.slice 52) := elemEntF
        have KP := Lib.hid (⟨KR.out, hbl, fun j x' hj => by
          match j, hj with
          | 0, hj => cases hj; exact d0
          | 1, hj => cases hj; exact d1
          | j + 2, hj => simp at hj⟩ : GEnt N 27 #[.int .i64 x1, .int .i64 x2, .int .i64 x3, .int .i64 x4, .string x5, .slice (some ⟨b, o, none⟩) z c, .string x7, .bool x8] b (o + k * 2) [.string x.k, .string x.v] wr)
        have BP := HB
        have OP := OD
        have HBL := Lib.hid hbl
        have NWL := Lib.hid (Nat.lt_of_lt_of_le K1.out.lt (Nat.le_refl _))
        clear hx hsm hed hy1 hy2 HY d0 d1
        go_upto_region 7 with (fail)
        refine Segs.wp_region_last (fun WW => GEnt N 27 #[.int .i64 x1, .int .i64 x2, .int .i64 x3, .int .i64 x4, .string x5, .slice (some ⟨b, o, none⟩) z c, .string x7, .bool x8] b (o + k * 2) [.string x.k, .string x.v] WW) [(0, false), (1, false), (2, false), (3, false), (4, false), (5, false), (6, false), (8, false), (9, false), (10, false), (11, false), (12, false), (13, false), (7, true), (14, true), (15, true), (16, true), (17, true), (18, true), (19, true)] (by kernel_rfl) (by kernel_rfl) (by kernel_rfl) rfl (by kernel_rfl) (KP.out.drew) ?_
        have Ka2 := Lib.hid (KP.out.drew)
        have Ba3 := Lib.hid (BP.out.drew)
        have Ea4 := Lib.hid (own_below (OP.out) ((Below.refl _ _).drew))
        generalize wr.drew = Wa1 at Ka2 Ba3 Ea4 ⊢
        refine Segs.WQ.val 0 rfl (some 16) (u) rfl (by kernel_rfl) (fun WW hG => by kernel_rfl) ?_
        simp only [Act.put, List.setIfInBounds_toArray, List.set_cons_zero, List.set_cons_succ]
        refine Segs.WQ.val 1 rfl (some 17) (.pointer (some ⟨N, 5, none⟩)) rfl (by kernel_rfl) (fun WW hG => by kernel_rfl) ?_
        simp only [Act.put, List.setIfInBounds_toArray, List.set_cons_zero, List.set_cons_succ]
        refine Segs.WQ.val 2 rfl (some 18) (.slice (some ⟨b, o, none⟩) z c) rfl (by kernel_rfl) (fun WW hG => Segs.run_cell 25 (.tmp 17) rfl N 5 (by kernel_rfl) _ (isAggEnts _) (by rw [hG.blk.cell]; rfl)) ?_
        simp only [Act.put, List.setIfInBounds_toArray, List.set_cons_zero, List.set_cons_succ]
        refine Segs.WQ.val 3 rfl (some 19) (.int .i64 (k : Int)) rfl (by kernel_rfl) (fun WW hG => by kernel_rfl) ?_
        simp only [Act.put, List.setIfInBounds_toArray, List.set_cons_zero, List.set_cons_succ]
        refine Segs.WQ.val 4 rfl (some 20) (.pointer (some ⟨b, o + k * 2, none⟩)) rfl (by kernel_rfl) (fun WW hG => run_indexK elemEntF sizeE rfl b o z c k (by kernel_rfl) (by kernel_rfl) IA.out) ?_
        simp only [Act.put, List.setIfInBounds_toArray, List.set_cons_zero, List.set_cons_succ]
        refine Segs.WQ.val 5 rfl (some 21) (.pointer (some ⟨b, o + k * 2, none⟩)) rfl (by kernel_rfl) (fun WW hG => by kernel_rfl) ?_
        simp only [Act.put, List.setIfInBounds_toArray, List.set_cons_zero, List.set_cons_succ]
        refine Segs.WQ.val 6 rfl (some 22) (.string x.k) rfl (by kernel_rfl) (fun WW hG => Segs.run_cell 9 (.tmp 21) rfl b (o + k * 2) (by kernel_rfl) _ (isAggStr _) (by have := hG.at_ 0 _ rfl; simpa using this)) ?_
        simp only [Act.put, List.setIfInBounds_toArray, List.set_cons_zero, List.set_cons_succ]
        refine Segs.WQ.val 8 rfl (some 24) (.pointer (some ⟨N, 5, none⟩)) rfl (by kernel_rfl) (fun WW hG => by kernel_rfl) ?_
        simp only [Act.put, List.setIfInBounds_toArray, List.set_cons_zero, List.set_cons_succ]
        refine Segs.WQ.val 9 rfl (some 25) (.slice (some ⟨b, o, none⟩) z c) rfl (by kernel_rfl) (fun WW hG => Segs.run_cell 25 (.tmp 24) rfl N 5 (by kernel_rfl) _ (isAggEnts _) (by rw [hG.blk.cell]; rfl)) ?_
        simp only [Act.put, List.setIfInBounds_toArray, List.set_cons_zero, List.set_cons_succ]
        refine Segs.WQ.val 10 rfl (some 26) (.int .i64 (k : Int)) rfl (by kernel_rfl) (fun WW hG => by kernel_rfl) ?_
        simp only [Act.put, List.setIfInBounds_toArray, List.set_cons_zero, List.set_cons_succ]
        refine Segs.WQ.val 11 rfl (some 27) (.pointer (some ⟨b, o + k * 2, none⟩)) rfl (by kernel_rfl) (fun WW hG => run_indexK elemEntF sizeE rfl b o z c k (by kernel_rfl) (by kernel_rfl) IA.out) ?_
        simp only [Act.put, List.setIfInBounds_toArray, List.set_cons_zero, List.set_cons_succ]
        refine Segs.WQ.val 12 rfl (some 28) (.pointer (some ⟨b, o + k * 2 + 1, none⟩)) rfl (by kernel_rfl) (fun WW hG => by kernel_rfl) ?_
        simp only [Act.put, List.setIfInBounds_toArray, List.set_cons_zero, List.set_cons_succ]
        refine Segs.WQ.val 13 rfl (some 29) (.string x.v) rfl (by kernel_rfl) (fun WW hG => Segs.run_cell 9 (.tmp 28) rfl b (o + k * 2 + 1) (by kernel_rfl) _ (isAggStr _) (by have := hG.at_ 1 _ rfl; simpa using this)) ?_
        simp only [Act.put, List.setIfInBounds_toArray, List.set_cons_zero, List.set_cons_succ]
        refine Segs.WQ.acall 7 rfl (some 23) 33 #[.string x.k] _ rfl rfl (fun W => by kernel_rfl) (T1.out Wa1) (fun e Wa5 hR => ?_)
        obtain ⟨rfl, hb⟩ := hR
        refine ⟨_, rfl, fun _ => Ka2.out.below hb, ?_⟩
        simp only [Act.put, List.setIfInBounds_toArray, List.set_cons_zero, List.set_cons_succ]
        have Ka6 := Lib.hid (Ka2.out.below hb)
        have Ba7 := Lib.hid (Ba3.out.trans (hb.mono Ba3.out.size))
        have Ea8 := Lib.hid (own_below (Ea4.out) (hb))
        clear hb
        refine Segs.WQ.acall 14 rfl (some 30) 33 #[.string x.v] _ rfl rfl (fun W => by kernel_rfl) (T2.out Wa5) (fun e Wa9 hR => ?_)
        obtain ⟨rfl, hb⟩ := hR
        refine ⟨_, rfl, fun _ => Ka6.out.below hb, ?_⟩
        simp only [Act.put, List.setIfInBounds_toArray, List.set_cons_zero, List.set_cons_succ]
        have Ka10 := Lib.hid (Ka6.out.below hb)
        have Ba11 := Lib.hid (Ba7.out.trans (hb.mono Ba7.out.size))
        have Ea12 := Lib.hid (own_below (Ea8.out) (hb))
        clear hb
        obtain ⟨ra13, hra13⟩ : ∃ n, n = Wa9.heap.size := ⟨_, rfl⟩
        refine Segs.WQ.aval 15 rfl (some 31) (.slice (some ⟨ra13, 0, none⟩) 2 2) (Wa9.alloc (.cells #[.string y1, .string y2] 9)) rfl rfl (by rw [hra13]; exact Segs.run_slice_of 60 9 2 _ rfl _ Tryz.underlying60 (by kernel_rfl)) (fun _ => Ka10.out.alloc _) ?_
        simp only [Act.put, List.setIfInBounds_toArray, List.set_cons_zero, List.set_cons_succ]
        have Ka15 := Lib.hid (Ka10.out.alloc (.cells #[.string y1, .string y2] 9))
        have Ba16 := Lib.hid (Ba11.out.alloc Ba11.out.size (.cells #[.string y1, .string y2] 9))
        have Qa17 := Lib.hid (by have := Blk.new Wa9 9 #[.string y1, .string y2]; rw [← hra13] at this; exact this)
        have Ea18 := Lib.hid (World.ownsRow.alloc (Ea12.out) (.cells #[.string y1, .string y2] 9))
        generalize Wa9.alloc (.cells #[.string y1, .string y2] 9) = Wa14 at Ka15 Ba16 Qa17 Ea18 ⊢
        clear hra13
        refine Segs.WQ.acall 16 rfl (some 32) 31 #[.slice (some ⟨ra13, 0, none⟩) 2 2] _ rfl rfl (fun W => by kernel_rfl) (HYY.out ▸ rlist_lit [y1, y2] ra13 Wa14 Qa17.out (by simp) (Nat.le_trans HED.out (by decide))) (fun e Wa19 hR => ?_)
        obtain ⟨rfl, hb⟩ := hR
        refine ⟨_, rfl, fun _ => Ka15.out.below hb, ?_⟩
        simp only [Act.put, List.setIfInBounds_toArray, List.set_cons_zero, List.set_cons_succ]
        have Ka20 := Lib.hid (Ka15.out.below hb)
        have Ba21 := Lib.hid (Ba16.out.trans (hb.mono Ba16.out.size))
        have Ea22 := Lib.hid (own_below (Ea18.out) (hb))
        clear hb
        obtain ⟨ra23, hra23⟩ : ∃ n, n = Wa19.heap.size := ⟨_, rfl⟩
        refine Segs.WQ.aval 17 rfl (some 33) (.slice (some ⟨ra23, 0, none⟩) 1 1) (Wa19.alloc (.cells #[.string (entB x)] 9)) rfl rfl (by rw [hra23]; exact Segs.run_slice_of 60 9 1 _ rfl _ Tryz.underlying60 (by kernel_rfl)) (fun _ => Ka20.out.alloc _) ?_
        simp only [Act.put, List.setIfInBounds_toArray, List.set_cons_zero, List.set_cons_succ]
        have Ka25 := Lib.hid (Ka20.out.alloc (.cells #[.string (entB x)] 9))
        have Ba26 := Lib.hid (Ba21.out.alloc Ba21.out.size (.cells #[.string (entB x)] 9))
        have Qa27 := Lib.hid (by have := Blk.new Wa19 9 #[.string (entB x)]; rw [← hra23] at this; exact this)
        have Ea28 := Lib.hid (World.ownsRow.alloc (Ea22.out) (.cells #[.string (entB x)] 9))
        generalize Wa19.alloc (.cells #[.string (entB x)] 9) = Wa24 at Ka25 Ba26 Qa27 Ea28 ⊢
        clear hra23
        obtain ⟨v5, wb, e1, e2, e3, -⟩ := append_own elemStrF infoStr rfl (by decide) (by decide) Wa24 w1.heap.size u _ _ Ea28.out ra23 0 1 1 [.string (entB x)] rfl (by intro j y hj; rw [Nat.zero_add, Qa27.out.cell]; simpa using hj) (by simp [Value.oneCell']) (by have := NK.out; omega) Ba26.out.size
        have E2 := Lib.hid e2
        have E3 := Lib.hid (Ba26.out.grown e3 Ba26.out.size (fun i hi => (VB.out i hi).1))
        have GB := Lib.hid (Ka25.out.grown e3 (fun i hi => ⟨fun e => by have := (VB.out i hi).1; have := NWL.out; omega, fun e => by have := (VB.out i hi).1; have := HBB.out; omega⟩))
        refine Segs.WQ.aval 18 rfl (some 34) v5 wb rfl rfl (run_appendF rfl rfl (by kernel_rfl) (by kernel_rfl) e1) (fun _ => GB.out) ?_
        simp only [Act.put, List.setIfInBounds_toArray, List.set_cons_zero, List.set_cons_succ]
        clear e1 e2 e3
        refine Segs.WQ.aval 19 rfl (some 4) (v5) wb rfl rfl (by kernel_rfl) (fun _ => GB.out) ?_
        simp only [Act.put, List.setIfInBounds_toArray, List.set_cons_zero, List.set_cons_succ]
        refine Segs.WQ.fin ?_
        go_wp2_with fail
        refine ⟨⟨k + 1, _, rfl, rfl, hlt, Lib.hid ?_, E3⟩, by simp [intOf]; omega⟩
        rw [STEP.out, List.map_append, List.length_append]
        exact E2.out
      · have i1 : ¬ (k : Int) < (z : Int) := by omega
        obtain rfl : z = k := by omega
        have ht : l.take z = l := by rw [HZ.out]; exact List.take_length
        rw [ht] at OD
        have K9 := KR
        have B9 := Lib.hid (B1.out.trans (HB.out.mono B1.out.size))
        have hll : (l.map entB).length ≤ 1000 := by rw [List.length_map, ← HZ.out]; omega
        have HLL := Lib.hid hll
        clear ht hll
        go_upto_region 8 with (fail)
        refine Segs.wp_region_last (fun WW => Blk WW N 27 #[.int .i64 x1, .int .i64 x2, .int .i64 x3, .int .i64 x4, .string x5, .slice A z c, .string x7, .bool x8]) [(1, false), (2, false), (4, false), (5, false), (7, false), (8, false), (10, false), (11, false), (13, false), (14, false), (16, false), (18, false), (19, false), (21, false), (22, false), (0, true), (3, true), (6, true), (9, true), (12, true), (15, true), (17, true), (20, true), (23, true), (24, true), (25, true), (26, true), (27, true)] (by kernel_rfl) (by kernel_rfl) (by kernel_rfl) rfl (by kernel_rfl) (by exact K9.out) ?_
        have Kb2 : Hid (Blk wr.drew N 27 #[.int .i64 x1, .int .i64 x2, .int .i64 x3, .int .i64 x4, .string x5, .slice A z c, .string x7, .bool x8]) := Lib.hid (by exact K9.out)
        have Bb3 := Lib.hid (B9.out.drew)
        have Eb4 := Lib.hid (own_below (OD.out) ((Below.refl _ _).drew))
        generalize wr.drew = Wb1 at Kb2 Bb3 Eb4 ⊢
        refine Segs.WQ.val 1 rfl (some 36) (.pointer (some ⟨N, 0, none⟩)) rfl (by kernel_rfl) (fun WW hG => by kernel_rfl) ?_
        simp only [Act.put, List.setIfInBounds_toArray, List.set_cons_zero, List.set_cons_succ]
        refine Segs.WQ.val 2 rfl (some 37) (.int .i64 x1) rfl (by kernel_rfl) (fun WW hG => Segs.run_cell 3 (.tmp 36) rfl N 0 (by kernel_rfl) _ (isAggInt _) (by rw [hG.cell]; rfl)) ?_
        simp only [Act.put, List.setIfInBounds_toArray, List.set_cons_zero, List.set_cons_succ]
        refine Segs.WQ.val 4 rfl (some 39) (.pointer (some ⟨N, 1, none⟩)) rfl (by kernel_rfl) (fun WW hG => by kernel_rfl) ?_
        simp only [Act.put, List.setIfInBounds_toArray, List.set_cons_zero, List.set_cons_succ]
        refine Segs.WQ.val 5 rfl (some 40) (.int .i64 x2) rfl (by kernel_rfl) (fun WW hG => Segs.run_cell 3 (.tmp 39) rfl N 1 (by kernel_rfl) _ (isAggInt _) (by rw [hG.cell]; rfl)) ?_
        simp only [Act.put, List.setIfInBounds_toArray, List.set_cons_zero, List.set_cons_succ]
        refine Segs.WQ.val 7 rfl (some 42) (.pointer (some ⟨N, 2, none⟩)) rfl (by kernel_rfl) (fun WW hG => by kernel_rfl) ?_
        simp only [Act.put, List.setIfInBounds_toArray, List.set_cons_zero, List.set_cons_succ]
        refine Segs.WQ.val 8 rfl (some 43) (.int .i64 x3) rfl (by kernel_rfl) (fun WW hG => Segs.run_cell 24 (.tmp 42) rfl N 2 (by kernel_rfl) _ (isAggEr _) (by rw [hG.cell]; rfl)) ?_
        simp only [Act.put, List.setIfInBounds_toArray, List.set_cons_zero, List.set_cons_succ]
        refine Segs.WQ.val 10 rfl (some 45) (.pointer (some ⟨N, 3, none⟩)) rfl (by kernel_rfl) (fun WW hG => by kernel_rfl) ?_
        simp only [Act.put, List.setIfInBounds_toArray, List.set_cons_zero, List.set_cons_succ]
        refine Segs.WQ.val 11 rfl (some 46) (.int .i64 x4) rfl (by kernel_rfl) (fun WW hG => Segs.run_cell 3 (.tmp 45) rfl N 3 (by kernel_rfl) _ (isAggInt _) (by rw [hG.cell]; rfl)) ?_
        simp only [Act.put, List.setIfInBounds_toArray, List.set_cons_zero, List.set_cons_succ]
        refine Segs.WQ.val 13 rfl (some 48) (.pointer (some ⟨N, 4, none⟩)) rfl (by kernel_rfl) (fun WW hG => by kernel_rfl) ?_
        simp only [Act.put, List.setIfInBounds_toArray, List.set_cons_zero, List.set_cons_succ]
        refine Segs.WQ.val 14 rfl (some 49) (.string x5) rfl (by kernel_rfl) (fun WW hG => Segs.run_cell 9 (.tmp 48) rfl N 4 (by kernel_rfl) _ (isAggStr _) (by rw [hG.cell]; rfl)) ?_
        simp only [Act.put, List.setIfInBounds_toArray, List.set_cons_zero, List.set_cons_succ]
        refine Segs.WQ.val 16 rfl (some 51) (u) rfl (by kernel_rfl) (fun WW hG => by kernel_rfl) ?_
        simp only [Act.put, List.setIfInBounds_toArray, List.set_cons_zero, List.set_cons_succ]
        refine Segs.WQ.val 18 rfl (some 53) (.pointer (some ⟨N, 6, none⟩)) rfl (by kernel_rfl) (fun WW hG => by kernel_rfl) ?_
        simp only [Act.put, List.setIfInBounds_toArray, List.set_cons_zero, List.set_cons_succ]
        refine Segs.WQ.val 19 rfl (some 54) (.string x7) rfl (by kernel_rfl) (fun WW hG => Segs.run_cell 9 (.tmp 53) rfl N 6 (by kernel_rfl) _ (isAggStr _) (by rw [hG.cell]; rfl)) ?_
        simp only [Act.put, List.setIfInBounds_toArray, List.set_cons_zero, List.set_cons_succ]
        refine Segs.WQ.val 21 rfl (some 56) (.pointer (some ⟨N, 7, none⟩)) rfl (by kernel_rfl) (fun WW hG => by kernel_rfl) ?_
        simp only [Act.put, List.setIfInBounds_toArray, List.set_cons_zero, List.set_cons_succ]
        refine Segs.WQ.val 22 rfl (some 57) (.bool x8) rfl (by kernel_rfl) (fun WW hG => Segs.run_cell 4 (.tmp 56) rfl N 7 (by kernel_rfl) _ (isAggBool _) (by rw [hG.cell]; rfl)) ?_
        simp only [Act.put, List.setIfInBounds_toArray, List.set_cons_zero, List.set_cons_succ]
        refine Segs.WQ.acall 0 rfl (some 35) 32 #[.int .i64 1] _ rfl rfl (fun W => by kernel_rfl) (C0.out Wb1) (fun e Wb5 hR => ?_)
        obtain ⟨rfl, hb⟩ := hR
        refine ⟨_, rfl, fun _ => Kb2.out.below hb, ?_⟩
        simp only [Act.put, List.setIfInBounds_toArray, List.set_cons_zero, List.set_cons_succ]
        have Kb6 := Lib.hid (Kb2.out.below hb)
        have Bb7 := Lib.hid (Bb3.out.trans (hb.mono Bb3.out.size))
        have Eb8 := Lib.hid (own_below (Eb4.out) (hb))
        clear hb
        refine Segs.WQ.acall 3 rfl (some 38) 32 #[.int .i64 x1] _ rfl rfl (fun W => by kernel_rfl) (C1.out Wb5) (fun e Wb9 hR => ?_)
        obtain ⟨rfl, hb⟩ := hR
        refine ⟨_, rfl, fun _ => Kb6.out.below hb, ?_⟩
        simp only [Act.put, List.setIfInBounds_toArray, List.set_cons_zero, List.set_cons_succ]
        have Kb10 := Lib.hid (Kb6.out.below hb)
        have Bb11 := Lib.hid (Bb7.out.trans (hb.mono Bb7.out.size))
        have Eb12 := Lib.hid (own_below (Eb8.out) (hb))
        clear hb
        refine Segs.WQ.acall 6 rfl (some 41) 32 #[.int .i64 x2] _ rfl rfl (fun W => by kernel_rfl) (C2.out Wb9) (fun e Wb13 hR => ?_)
        obtain ⟨rfl, hb⟩ := hR
        refine ⟨_, rfl, fun _ => Kb10.out.below hb, ?_⟩
        simp only [Act.put, List.setIfInBounds_toArray, List.set_cons_zero, List.set_cons_succ]
        have Kb14 := Lib.hid (Kb10.out.below hb)
        have Bb15 := Lib.hid (Bb11.out.trans (hb.mono Bb11.out.size))
        have Eb16 := Lib.hid (own_below (Eb12.out) (hb))
        clear hb
        refine Segs.WQ.acall 9 rfl (some 44) 32 #[.int .i64 x3] _ rfl rfl (fun W => by kernel_rfl) (C3.out Wb13) (fun e Wb17 hR => ?_)
        obtain ⟨rfl, hb⟩ := hR
        refine ⟨_, rfl, fun _ => Kb14.out.below hb, ?_⟩
        simp only [Act.put, List.setIfInBounds_toArray, List.set_cons_zero, List.set_cons_succ]
        have Kb18 := Lib.hid (Kb14.out.below hb)
        have Bb19 := Lib.hid (Bb15.out.trans (hb.mono Bb15.out.size))
        have Eb20 := Lib.hid (own_below (Eb16.out) (hb))
        clear hb
        refine Segs.WQ.acall 12 rfl (some 47) 32 #[.int .i64 x4] _ rfl rfl (fun W => by kernel_rfl) (C4.out Wb17) (fun e Wb21 hR => ?_)
        obtain ⟨rfl, hb⟩ := hR
        refine ⟨_, rfl, fun _ => Kb18.out.below hb, ?_⟩
        simp only [Act.put, List.setIfInBounds_toArray, List.set_cons_zero, List.set_cons_succ]
        have Kb22 := Lib.hid (Kb18.out.below hb)
        have Bb23 := Lib.hid (Bb19.out.trans (hb.mono Bb19.out.size))
        have Eb24 := Lib.hid (own_below (Eb20.out) (hb))
        clear hb
        refine Segs.WQ.acall 15 rfl (some 50) 33 #[.string x5] _ rfl rfl (fun W => by kernel_rfl) (C5.out Wb21) (fun e Wb25 hR => ?_)
        obtain ⟨rfl, hb⟩ := hR
        refine ⟨_, rfl, fun _ => Kb22.out.below hb, ?_⟩
        simp only [Act.put, List.setIfInBounds_toArray, List.set_cons_zero, List.set_cons_succ]
        have Kb26 := Lib.hid (Kb22.out.below hb)
        have Bb27 := Lib.hid (Bb23.out.trans (hb.mono Bb23.out.size))
        have Eb28 := Lib.hid (own_below (Eb24.out) (hb))
        clear hb
        refine Segs.WQ.acall 17 rfl (some 52) 31 #[u] _ rfl rfl (fun W => by kernel_rfl) (HSL.out ▸ rlist_own (xs := l.map entB) Eb28.out HLL.out HLI.out) (fun e Wb29 hR => ?_)
        obtain ⟨rfl, hb⟩ := hR
        refine ⟨_, rfl, fun _ => Kb26.out.below hb, ?_⟩
        simp only [Act.put, List.setIfInBounds_toArray, List.set_cons_zero, List.set_cons_succ]
        have Kb30 := Lib.hid (Kb26.out.below hb)
        have Bb31 := Lib.hid (Bb27.out.trans (hb.mono Bb27.out.size))
        have Eb32 := Lib.hid (own_below (Eb28.out) (hb))
        clear hb
        refine Segs.WQ.acall 20 rfl (some 55) 33 #[.string x7] _ rfl rfl (fun W => by kernel_rfl) (C7.out Wb29) (fun e Wb33 hR => ?_)
        obtain ⟨rfl, hb⟩ := hR
        refine ⟨_, rfl, fun _ => Kb30.out.below hb, ?_⟩
        simp only [Act.put, List.setIfInBounds_toArray, List.set_cons_zero, List.set_cons_succ]
        have Kb34 := Lib.hid (Kb30.out.below hb)
        have Bb35 := Lib.hid (Bb31.out.trans (hb.mono Bb31.out.size))
        have Eb36 := Lib.hid (own_below (Eb32.out) (hb))
        clear hb
        refine Segs.WQ.acall 23 rfl (some 58) 35 #[.bool x8] _ rfl rfl (fun W => by kernel_rfl) (C8.out Wb33) (fun e Wb37 hR => ?_)
        obtain ⟨rfl, hb⟩ := hR
        refine ⟨_, rfl, fun _ => Kb34.out.below hb, ?_⟩
        simp only [Act.put, List.setIfInBounds_toArray, List.set_cons_zero, List.set_cons_succ]
        have Kb38 := Lib.hid (Kb34.out.below hb)
        have Bb39 := Lib.hid (Bb35.out.trans (hb.mono Bb35.out.size))
        have Eb40 := Lib.hid (own_below (Eb36.out) (hb))
        clear hb
        obtain ⟨rb41, hrb41⟩ : ∃ n, n = Wb37.heap.size := ⟨_, rfl⟩
        refine Segs.WQ.aval 24 rfl (some 59) (.slice (some ⟨rb41, 0, none⟩) 9 9) (Wb37.alloc (.cells #[.string S0, .string S1, .string S2, .string S3, .string S4, .string S5, .string S6, .string S7, .string S8] 9)) rfl rfl (by rw [hrb41]; exact Segs.run_slice_of 60 9 9 _ rfl _ Tryz.underlying60 (by kernel_rfl)) (fun _ => Kb38.out.alloc _) ?_
        simp only [Act.put, List.setIfInBounds_toArray, List.set_cons_zero, List.set_cons_succ]
        have Kb43 := Lib.hid (Kb38.out.alloc (.cells #[.string S0, .string S1, .string S2, .string S3, .string S4, .string S5, .string S6, .string S7, .string S8] 9))
        have Bb44 := Lib.hid (Bb39.out.alloc Bb39.out.size (.cells #[.string S0, .string S1, .string S2, .string S3, .string S4, .string S5, .string S6, .string S7, .string S8] 9))
        have Qb45 := Lib.hid (by have := Blk.new Wb37 9 #[.string S0, .string S1, .string S2, .string S3, .string S4, .string S5, .string S6, .string S7, .string S8]; rw [← hrb41] at this; exact this)
        have Eb46 := Lib.hid (World.ownsRow.alloc (Eb40.out) (.cells #[.string S0, .string S1, .string S2, .string S3, .string S4, .string S5, .string S6, .string S7, .string S8] 9))
        generalize Wb37.alloc (.cells #[.string S0, .string S1, .string S2, .string S3, .string S4, .string S5, .string S6, .string S7, .string S8] 9) = Wb42 at Kb43 Bb44 Qb45 Eb46 ⊢
        clear hrb41
        refine Segs.WQ.acall 25 rfl (some 60) 31 #[.slice (some ⟨rb41, 0, none⟩) 9 9] _ rfl rfl (fun W => by kernel_rfl) (rlist_lit [S0, S1, S2, S3, S4, S5, S6, S7, S8] rb41 Wb42 Qb45.out (by simp) (Nat.le_trans HD.out (by decide))) (fun e Wb47 hR => ?_)
        obtain ⟨rfl, hb⟩ := hR
        refine ⟨_, rfl, fun _ => Kb43.out.below hb, ?_⟩
        simp only [Act.put, List.setIfInBounds_toArray, List.set_cons_zero, List.set_cons_succ]
        have Kb48 := Lib.hid (Kb43.out.below hb)
        have Bb49 := Lib.hid (Bb44.out.trans (hb.mono Bb44.out.size))
        have Eb50 := Lib.hid (own_below (Eb46.out) (hb))
        clear hb
        refine Segs.WQ.aval 26 rfl (some 2) (.string (Nod.listB [S0, S1, S2, S3, S4, S5, S6, S7, S8])) Wb47 rfl rfl (by kernel_rfl) (fun _ => Kb48.out) ?_
        simp only [Act.put, List.setIfInBounds_toArray, List.set_cons_zero, List.set_cons_succ]
        refine Segs.WQ.aval 27 rfl (some 3) (.int .i64 0) Wb47 rfl rfl (by kernel_rfl) (fun _ => Kb48.out) ?_
        simp only [Act.put, List.setIfInBounds_toArray, List.set_cons_zero, List.set_cons_succ]
        refine Segs.WQ.fin ?_
        go_wp2_with fail
        go_ret2
        exact ⟨rfl, Bb49.out⟩
end Go.Proofs.YtlbebdkockejcaaGreatDoor
namespace Go.Proofs.YtlbebdkockejcaaGreatDoor
open Go.RowKit Go.Proofs.Frm Go.Proofs.Mdl
set_option linter.unusedVariables false
set_option linter.unusedSimpArgs false
set_option maxRecDepth 100000 in
set_option maxHeartbeats 8000000 in
theorem rputNotice_any {w : World} {v : Value} {r : Frm.Ntc} (h : Cs w v r.changes) (hl0 : r.changes.length ≤ 1000) :
    Calls Tryz.prog 12 #[.agg (cellN r v).toArray] w fun e w' => e = .returned (.tuple #[.string (if validN r then putN r else z0), .int .i64 (if validN r then 0 else 1)]) ∧ Below w.heap.size w w' := by
  have VA := Lib.hid (fun W hW => rvalidNotice_any (w := W) (v := v) (r := r) (h.below hW) hl0)
  obtain ⟨A, c, rfl⟩ := h.shape
  rcases hv : validN r with _ | _
  · rw [hv] at VA
    unfold cellN at *
    simp only [Bool.false_eq_true, if_false]
    clear hv hl0
    go_enter Tryz.func12, Tryz.ntmps12
    go_wp2_with (first
      | (go_at_call 15; refine (VA.out _ ((Below.refl _ _).alloc (Nat.le_refl _) _)).mono ?_; rintro e w1 ⟨rfl, hb⟩; have B1 := Lib.hid hb; clear hb))
    go_ret2
    exact ⟨rfl, ((Below.refl _ _).alloc (Nat.le_refl _) _).trans (B1.out.mono (by simp))⟩
  · rw [hv] at VA
    have f := factsN hv
    have hd := itemsN_dat f
    have hp : putN r = Nod.listB (itemsN r) := rfl
    rw [hp]
    simp only [if_true]
    clear hv hp hl0
    obtain ⟨x1, x2, x3, x4, l⟩ := r
    unfold itemsN at hd ⊢
    unfold cellN at *
    obtain ⟨s0, s1, e0, e1, b0, b1, ht, hl, ha⟩ := f
    simp only at s0 s1 e0 e1 b0 b1 ht hl ha hd h VA ⊢
    have C0 := Lib.hid (fun W => rnumz_any 2 W (by decide) (by decide))
    have C1 := Lib.hid (fun W => rnumz_any x1 W s0 (by omega))
    have C2 := Lib.hid (fun W => rnumz_any x2 W e0 (by omega))
    have C3 := Lib.hid (fun W => rnumz_any x3 W b0 (by omega))
    have C4 := Lib.hid (fun W => rtext_any x4 W (by omega))
    have hlist : (dat (l.map chgB)).flatten.length ≤ 1000000 := Nat.le_trans (chgs_dat l ha hl) (by decide)
    obtain ⟨S0, hS0⟩ : ∃ q, q = numZ 2 := ⟨_, rfl⟩
    obtain ⟨S1, hS1⟩ : ∃ q, q = numZ x1 := ⟨_, rfl⟩
    obtain ⟨S2, hS2⟩ : ∃ q, q = numZ x2 := ⟨_, rfl⟩
    obtain ⟨S3, hS3⟩ : ∃ q, q = numZ x3 := ⟨_, rfl⟩
    obtain ⟨S4, hS4⟩ : ∃ q, q = Nod.textB x4 := ⟨_, rfl⟩
    obtain ⟨S5, hS5⟩ : ∃ q, q = Nod.listB (l.map chgB) := ⟨_, rfl⟩
    simp only [← hS0, ← hS1, ← hS2, ← hS3, ← hS4, ← hS5] at C0 C1 C2 C3 C4 hd ⊢
    obtain ⟨z, hz⟩ : ∃ z, z = l.length := ⟨_, rfl⟩
    rw [← hz] at h VA
    have nz : z ≤ 80 := by omega
    have HZ := Lib.hid hz
    have HE := Lib.hid h
    have HD := Lib.hid hd
    have HLI := Lib.hid hlist
    have SM := Lib.hid (fun x hx => List.all_eq_true.1 ha x hx)
    have HSL := Lib.hid hS5
    clear hd hlist hz h s0 s1 e0 e1 b0 b1 ht hl ha hS0 hS1 hS2 hS3 hS4
    obtain ⟨w0, N, hw, hN, hb0, k0, hz0⟩ := box_new w 30 #[.int .i64 x1, .int .i64 x2, .int .i64 x3, .string x4, .slice A z c]
    have B0 := Lib.hid hb0
    have K0 := Lib.hid k0
    clear hb0 k0 hz0
    rw [← HZ.out]
    go_enter Tryz.func12, Tryz.ntmps12
    go_upto_region 1 with (fail)
    rw [← hw, ← hN]
    clear hw hN
    have c0 := K0.out.cell 0
    have c1 := K0.out.cell 1
    have c2 := K0.out.cell 2
    have c3 := K0.out.cell 3
    have c4 := K0.out.cell 4
    simp only [List.getElem?_toArray, List.getElem?_cons_succ, List.getElem?_cons_zero] at c0 c1 c2 c3 c4
    go_upto_region 3 with (go_at_call 15; refine (VA.out _ B0.out).mono ?_; rintro e w1 ⟨rfl, hb⟩; have B1 := Lib.hid (B0.out.trans (hb.mono B0.out.size)); have K1 := Lib.hid (K0.out.below hb); clear hb)
    clear c0 c1 c2 c3 c4
    have HE1 := Lib.hid (HE.out.below B1.out)
    go_wp2_with fail
    go_loopw [4, 5] (fun v4 vi wr => ∃ (k : Nat) (u : Value), u = v4 ∧ vi = .int .i64 (k : Int) ∧ k ≤ z ∧ Hid (wr.ownsRow w1.heap.size 9 1 u ((l.take k).map chgB).length (((l.take k).map chgB).map Value.string)) ∧ Hid (Below w1.heap.size w1 wr)) (fun _ vi _ => z - (intOf vi).toNat)
    case atStart => exact ⟨0, _, rfl, rfl, Nat.zero_le _, Lib.hid ⟨rfl, .inl ⟨rfl, rfl⟩⟩, Lib.hid (Below.refl _ _)⟩
    case round =>
      obtain ⟨k, u, rfl, rfl, hk, OD, HB⟩ := hrel
      have KR := Lib.hid (K1.out.below HB.out)
      have cs := KR.out.cell 4
      simp only [List.getElem?_toArray, List.getElem?_cons_succ, List.getElem?_cons_zero] at cs
      by_cases hlt : k < z
      · obtain ⟨x, hx⟩ : ∃ x, l[k]? = some x := ⟨_, List.getElem?_eq_getElem (by rw [← HZ.out]; exact hlt)⟩
        obtain ⟨b1, o1, c1, hv1, hbl1, -⟩ := HE1.out.at_ hx
        obtain ⟨b, o, c', hv, hbl, d0, d1, d2⟩ := (HE1.out.below HB.out).at_ hx
        simp only [Value.slice.injEq] at hv
        obtain ⟨rfl, -, -⟩ := hv
        have hbb : b < w1.heap.size := by simp only [Value.slice.injEq, Option.some.injEq, Addr.mk.injEq] at hv1; omega
        clear hv1 hbl1
        have HBB := Lib.hid hbb
        clear hbb
        have STEP := Lib.hid (map_step chgB hx)
        have hsm := SM.out x (List.mem_of_getElem? hx)
        have hed := chgB_dat x hsm
        simp only [smallC, Bool.and_eq_true, decide_eq_true_eq] at hsm
        have T1 := Lib.hid (fun W => rtext_any x.k W (by omega))
        have T2 := Lib.hid (fun W => rtext_any x.v W (by omega))
        have T3 := Lib.hid (fun W => rbit_any x.gone W)
        have HED := Lib.hid hed
        have i1 : (k : Int) < (z : Int) := by omega
        have wk : IntKind.i64.wrap ((k : Int) + 1) = (k : Int) + 1 := IntWalk.i64_in _ (by omega)
        have IA := Lib.hid hlt
        have NK := Lib.hid (show ((l.take k).map chgB).length ≤ 80 by rw [List.length_map, List.length_take]; omega)
        have VB : Hid (∀ i, u.ownBlock = some i → w1.heap.size ≤ i ∧ i < wr.heap.size) := Lib.hid (fun i hi => OD.out.lt i hi)
        obtain ⟨y1, hy1⟩ : ∃ y, y = Nod.textB x.k := ⟨_, rfl⟩
        obtain ⟨y2, hy2⟩ : ∃ y, y = Nod.textB x.v := ⟨_, rfl⟩
        obtain ⟨y3, hy3⟩ : ∃ y, y = flagB x.gone := ⟨_, rfl⟩
        have HY : chgB x = Nod.listB [y1, y2, y3] := by unfold chgB; rw [hy1, hy2, hy3]
        simp only [← hy1, ← hy2, ← hy3] at T1 T2 T3 HED
        have HYY := Lib.hid HY
        obtain ⟨w2, p, hw2, hp, hb2, kp, hz2⟩ := box_new wr 54 #[.string x.k, .string x.v, .bool x.gone]
        have KP := Lib.hid kp
        have BP := Lib.hid (HB.out.trans (hb2.mono HB.out.size))
        have OP := Lib.hid (own_below OD.out hb2)
        have HP := Lib.hid hp
        clear hx hbl hsm hed hy1 hy2 hb2 kp hz2 HY hy3
        go_upto_region 8 with (fail)
        rw [← hw2, ← hp]
        clear hw2 hp
        refine Segs.wp_region_last (fun WW => Blk WW p 54 #[.string x.k, .string x.v, .bool x.gone]) [(0, false), (1, false), (2, false), (4, false), (5, false), (7, false), (8, false), (3, true), (6, true), (9, true), (10, true), (11, true), (12, true), (13, true), (14, true)] (by kernel_rfl) (by kernel_rfl) (by kernel_rfl) rfl (by kernel_rfl) (by exact KP.out) ?_
        have Ka2 : Hid (Blk w2.drew p 54 #[.string x.k, .string x.v, .bool x.gone]) := Lib.hid (by exact KP.out)
        have Ba3 := Lib.hid (BP.out.drew)
        have Ea4 := Lib.hid (own_below (OP.out) ((Below.refl _ _).drew))
        generalize w2.drew = Wa1 at Ka2 Ba3 Ea4 ⊢
        refine Segs.WQ.val 0 rfl (some 22) (u) rfl (by kernel_rfl) (fun WW hG => by kernel_rfl) ?_
        simp only [Act.put, List.setIfInBounds_toArray, List.set_cons_zero, List.set_cons_succ]
        refine Segs.WQ.val 1 rfl (some 23) (.pointer (some ⟨p, 0, none⟩)) rfl (by kernel_rfl) (fun WW hG => by kernel_rfl) ?_
        simp only [Act.put, List.setIfInBounds_toArray, List.set_cons_zero, List.set_cons_succ]
        refine Segs.WQ.val 2 rfl (some 24) (.string x.k) rfl (by kernel_rfl) (fun WW hG => Segs.run_cell 9 (.tmp 23) rfl p 0 (by kernel_rfl) _ (isAggStr _) (by rw [hG.cell]; rfl)) ?_
        simp only [Act.put, List.setIfInBounds_toArray, List.set_cons_zero, List.set_cons_succ]
        refine Segs.WQ.val 4 rfl (some 26) (.pointer (some ⟨p, 1, none⟩)) rfl (by kernel_rfl) (fun WW hG => by kernel_rfl) ?_
        simp only [Act.put, List.setIfInBounds_toArray, List.set_cons_zero, List.set_cons_succ]
        refine Segs.WQ.val 5 rfl (some 27) (.string x.v) rfl (by kernel_rfl) (fun WW hG => Segs.run_cell 9 (.tmp 26) rfl p 1 (by kernel_rfl) _ (isAggStr _) (by rw [hG.cell]; rfl)) ?_
        simp only [Act.put, List.setIfInBounds_toArray, List.set_cons_zero, List.set_cons_succ]
        refine Segs.WQ.val 7 rfl (some 29) (.pointer (some ⟨p, 2, none⟩)) rfl (by kernel_rfl) (fun WW hG => by kernel_rfl) ?_
        simp only [Act.put, List.setIfInBounds_toArray, List.set_cons_zero, List.set_cons_succ]
        refine Segs.WQ.val 8 rfl (some 30) (.bool x.gone) rfl (by kernel_rfl) (fun WW hG => Segs.run_cell 4 (.tmp 29) rfl p 2 (by kernel_rfl) _ (isAggBool _) (by rw [hG.cell]; rfl)) ?_
        simp only [Act.put, List.setIfInBounds_toArray, List.set_cons_zero, List.set_cons_succ]
        refine Segs.WQ.acall 3 rfl (some 25) 33 #[.string x.k] _ rfl rfl (fun W => by kernel_rfl) (T1.out Wa1) (fun e Wa5 hR => ?_)
        obtain ⟨rfl, hb⟩ := hR
        refine ⟨_, rfl, fun _ => Ka2.out.below hb, ?_⟩
        simp only [Act.put, List.setIfInBounds_toArray, List.set_cons_zero, List.set_cons_succ]
        have Ka6 := Lib.hid (Ka2.out.below hb)
        have Ba7 := Lib.hid (Ba3.out.trans (hb.mono Ba3.out.size))
        have Ea8 := Lib.hid (own_below (Ea4.out) (hb))
        clear hb
        refine Segs.WQ.acall 6 rfl (some 28) 33 #[.string x.v] _ rfl rfl (fun W => by kernel_rfl) (T2.out Wa5) (fun e Wa9 hR => ?_)
        obtain ⟨rfl, hb⟩ := hR
        refine ⟨_, rfl, fun _ => Ka6.out.below hb, ?_⟩
        simp only [Act.put, List.setIfInBounds_toArray, List.set_cons_zero, List.set_cons_succ]
        have Ka10 := Lib.hid (Ka6.out.below hb)
        have Ba11 := Lib.hid (Ba7.out.trans (hb.mono Ba7.out.size))
        have Ea12 := Lib.hid (own_below (Ea8.out) (hb))
        clear hb
        refine Segs.WQ.acall 9 rfl (some 31) 35 #[.bool x.gone] _ rfl rfl (fun W => by kernel_rfl) (T3.out Wa9) (fun e Wa13 hR => ?_)
        obtain ⟨rfl, hb⟩ := hR
        refine ⟨_, rfl, fun _ => Ka10.out.below hb, ?_⟩
        simp only [Act.put, List.setIfInBounds_toArray, List.set_cons_zero, List.set_cons_succ]
        have Ka14 := Lib.hid (Ka10.out.below hb)
        have Ba15 := Lib.hid (Ba11.out.trans (hb.mono Ba11.out.size))
        have Ea16 := Lib.hid (own_below (Ea12.out) (hb))
        clear hb
        obtain ⟨ra17, hra17⟩ : ∃ n, n = Wa13.heap.size := ⟨_, rfl⟩
        refine Segs.WQ.aval 10 rfl (some 32) (.slice (some ⟨ra17, 0, none⟩) 3 3) (Wa13.alloc (.cells #[.string y1, .string y2, .string y3] 9)) rfl rfl (by rw [hra17]; exact Segs.run_slice_of 60 9 3 _ rfl _ Tryz.underlying60 (by kernel_rfl)) (fun _ => Ka14.out.alloc _) ?_
        simp only [Act.put, List.setIfInBounds_toArray, List.set_cons_zero, List.set_cons_succ]
        have Ka19 := Lib.hid (Ka14.out.alloc (.cells #[.string y1, .string y2, .string y3] 9))
        have Ba20 := Lib.hid (Ba15.out.alloc Ba15.out.size (.cells #[.string y1, .string y2, .string y3] 9))
        have Qa21 := Lib.hid (by have := Blk.new Wa13 9 #[.string y1, .string y2, .string y3]; rw [← hra17] at this; exact this)
        have Ea22 := Lib.hid (World.ownsRow.alloc (Ea16.out) (.cells #[.string y1, .string y2, .string y3] 9))
        generalize Wa13.alloc (.cells #[.string y1, .string y2, .string y3] 9) = Wa18 at Ka19 Ba20 Qa21 Ea22 ⊢
        clear hra17
        refine Segs.WQ.acall 11 rfl (some 33) 31 #[.slice (some ⟨ra17, 0, none⟩) 3 3] _ rfl rfl (fun W => by kernel_rfl) (HYY.out ▸ rlist_lit [y1, y2, y3] ra17 Wa18 Qa21.out (by simp) (Nat.le_trans HED.out (by decide))) (fun e Wa23 hR => ?_)
        obtain ⟨rfl, hb⟩ := hR
        refine ⟨_, rfl, fun _ => Ka19.out.below hb, ?_⟩
        simp only [Act.put, List.setIfInBounds_toArray, List.set_cons_zero, List.set_cons_succ]
        have Ka24 := Lib.hid (Ka19.out.below hb)
        have Ba25 := Lib.hid (Ba20.out.trans (hb.mono Ba20.out.size))
        have Ea26 := Lib.hid (own_below (Ea22.out) (hb))
        clear hb
        obtain ⟨ra27, hra27⟩ : ∃ n, n = Wa23.heap.size := ⟨_, rfl⟩
        refine Segs.WQ.aval 12 rfl (some 34) (.slice (some ⟨ra27, 0, none⟩) 1 1) (Wa23.alloc (.cells #[.string (chgB x)] 9)) rfl rfl (by rw [hra27]; exact Segs.run_slice_of 60 9 1 _ rfl _ Tryz.underlying60 (by kernel_rfl)) (fun _ => Ka24.out.alloc _) ?_
        simp only [Act.put, List.setIfInBounds_toArray, List.set_cons_zero, List.set_cons_succ]
        have Ka29 := Lib.hid (Ka24.out.alloc (.cells #[.string (chgB x)] 9))
        have Ba30 := Lib.hid (Ba25.out.alloc Ba25.out.size (.cells #[.string (chgB x)] 9))
        have Qa31 := Lib.hid (by have := Blk.new Wa23 9 #[.string (chgB x)]; rw [← hra27] at this; exact this)
        have Ea32 := Lib.hid (World.ownsRow.alloc (Ea26.out) (.cells #[.string (chgB x)] 9))
        generalize Wa23.alloc (.cells #[.string (chgB x)] 9) = Wa28 at Ka29 Ba30 Qa31 Ea32 ⊢
        clear hra27
        obtain ⟨v5, wb, e1, e2, e3, -⟩ := append_own elemStrF infoStr rfl (by decide) (by decide) Wa28 w1.heap.size u _ _ Ea32.out ra27 0 1 1 [.string (chgB x)] rfl (by intro j y hj; rw [Nat.zero_add, Qa31.out.cell]; simpa using hj) (by simp [Value.oneCell']) (by have := NK.out; omega) Ba30.out.size
        have E2 := Lib.hid e2
        have E3 := Lib.hid (Ba30.out.grown e3 Ba30.out.size (fun i hi => (VB.out i hi).1))
        have GB := Lib.hid (Ka29.out.grown e3 (fun e => by have := (VB.out p e).2; have := HP.out; omega))
        refine Segs.WQ.aval 13 rfl (some 35) v5 wb rfl rfl (run_appendF rfl rfl (by kernel_rfl) (by kernel_rfl) e1) (fun _ => GB.out) ?_
        simp only [Act.put, List.setIfInBounds_toArray, List.set_cons_zero, List.set_cons_succ]
        clear e1 e2 e3
        refine Segs.WQ.aval 14 rfl (some 4) (v5) wb rfl rfl (by kernel_rfl) (fun _ => GB.out) ?_
        simp only [Act.put, List.setIfInBounds_toArray, List.set_cons_zero, List.set_cons_succ]
        refine Segs.WQ.fin ?_
        go_wp2_with fail
        refine ⟨⟨k + 1, _, rfl, rfl, hlt, Lib.hid ?_, E3⟩, by simp [intOf]; omega⟩
        rw [STEP.out, List.map_append, List.length_append]
        exact E2.out
      · have i1 : ¬ (k : Int) < (z : Int) := by omega
        obtain rfl : z = k := by omega
        have ht : l.take z = l := by rw [HZ.out]; exact List.take_length
        rw [ht] at OD
        have K9 := KR
        have B9 := Lib.hid (B1.out.trans (HB.out.mono B1.out.size))
        have hll : (l.map chgB).length ≤ 1000 := by rw [List.length_map, ← HZ.out]; omega
        have HLL := Lib.hid hll
        clear ht hll
        go_upto_region 9 with (fail)
        refine Segs.wp_region_last (fun WW => Blk WW N 30 #[.int .i64 x1, .int .i64 x2, .int .i64 x3, .string x4, .slice A z c]) [(1, false), (2, false), (4, false), (5, false), (7, false), (8, false), (10, false), (11, false), (13, false), (0, true), (3, true), (6, true), (9, true), (12, true), (14, true), (15, true), (16, true), (17, true), (18, true)] (by kernel_rfl) (by kernel_rfl) (by kernel_rfl) rfl (by kernel_rfl) (by exact K9.out) ?_
        have Kb2 : Hid (Blk wr.drew N 30 #[.int .i64 x1, .int .i64 x2, .int .i64 x3, .string x4, .slice A z c]) := Lib.hid (by exact K9.out)
        have Bb3 := Lib.hid (B9.out.drew)
        have Eb4 := Lib.hid (own_below (OD.out) ((Below.refl _ _).drew))
        generalize wr.drew = Wb1 at Kb2 Bb3 Eb4 ⊢
        refine Segs.WQ.val 1 rfl (some 37) (.pointer (some ⟨N, 0, none⟩)) rfl (by kernel_rfl) (fun WW hG => by kernel_rfl) ?_
        simp only [Act.put, List.setIfInBounds_toArray, List.set_cons_zero, List.set_cons_succ]
        refine Segs.WQ.val 2 rfl (some 38) (.int .i64 x1) rfl (by kernel_rfl) (fun WW hG => Segs.run_cell 3 (.tmp 37) rfl N 0 (by kernel_rfl) _ (isAggInt _) (by rw [hG.cell]; rfl)) ?_
        simp only [Act.put, List.setIfInBounds_toArray, List.set_cons_zero, List.set_cons_succ]
        refine Segs.WQ.val 4 rfl (some 40) (.pointer (some ⟨N, 1, none⟩)) rfl (by kernel_rfl) (fun WW hG => by kernel_rfl) ?_
        simp only [Act.put, List.setIfInBounds_toArray, List.set_cons_zero, List.set_cons_succ]
        refine Segs.WQ.val 5 rfl (some 41) (.int .i64 x2) rfl (by kernel_rfl) (fun WW hG => Segs.run_cell 24 (.tmp 40) rfl N 1 (by kernel_rfl) _ (isAggEr _) (by rw [hG.cell]; rfl)) ?_
        simp only [Act.put, List.setIfInBounds_toArray, List.set_cons_zero, List.set_cons_succ]
        refine Segs.WQ.val 7 rfl (some 43) (.pointer (some ⟨N, 2, none⟩)) rfl (by kernel_rfl) (fun WW hG => by kernel_rfl) ?_
        simp only [Act.put, List.setIfInBounds_toArray, List.set_cons_zero, List.set_cons_succ]
        refine Segs.WQ.val 8 rfl (some 44) (.int .i64 x3) rfl (by kernel_rfl) (fun WW hG => Segs.run_cell 3 (.tmp 43) rfl N 2 (by kernel_rfl) _ (isAggInt _) (by rw [hG.cell]; rfl)) ?_
        simp only [Act.put, List.setIfInBounds_toArray, List.set_cons_zero, List.set_cons_succ]
        refine Segs.WQ.val 10 rfl (some 46) (.pointer (some ⟨N, 3, none⟩)) rfl (by kernel_rfl) (fun WW hG => by kernel_rfl) ?_
        simp only [Act.put, List.setIfInBounds_toArray, List.set_cons_zero, List.set_cons_succ]
        refine Segs.WQ.val 11 rfl (some 47) (.string x4) rfl (by kernel_rfl) (fun WW hG => Segs.run_cell 9 (.tmp 46) rfl N 3 (by kernel_rfl) _ (isAggStr _) (by rw [hG.cell]; rfl)) ?_
        simp only [Act.put, List.setIfInBounds_toArray, List.set_cons_zero, List.set_cons_succ]
        refine Segs.WQ.val 13 rfl (some 49) (u) rfl (by kernel_rfl) (fun WW hG => by kernel_rfl) ?_
        simp only [Act.put, List.setIfInBounds_toArray, List.set_cons_zero, List.set_cons_succ]
        refine Segs.WQ.acall 0 rfl (some 36) 32 #[.int .i64 2] _ rfl rfl (fun W => by kernel_rfl) (C0.out Wb1) (fun e Wb5 hR => ?_)
        obtain ⟨rfl, hb⟩ := hR
        refine ⟨_, rfl, fun _ => Kb2.out.below hb, ?_⟩
        simp only [Act.put, List.setIfInBounds_toArray, List.set_cons_zero, List.set_cons_succ]
        have Kb6 := Lib.hid (Kb2.out.below hb)
        have Bb7 := Lib.hid (Bb3.out.trans (hb.mono Bb3.out.size))
        have Eb8 := Lib.hid (own_below (Eb4.out) (hb))
        clear hb
        refine Segs.WQ.acall 3 rfl (some 39) 32 #[.int .i64 x1] _ rfl rfl (fun W => by kernel_rfl) (C1.out Wb5) (fun e Wb9 hR => ?_)
        obtain ⟨rfl, hb⟩ := hR
        refine ⟨_, rfl, fun _ => Kb6.out.below hb, ?_⟩
        simp only [Act.put, List.setIfInBounds_toArray, List.set_cons_zero, List.set_cons_succ]
        have Kb10 := Lib.hid (Kb6.out.below hb)
        have Bb11 := Lib.hid (Bb7.out.trans (hb.mono Bb7.out.size))
        have Eb12 := Lib.hid (own_below (Eb8.out) (hb))
        clear hb
        refine Segs.WQ.acall 6 rfl (some 42) 32 #[.int .i64 x2] _ rfl rfl (fun W => by kernel_rfl) (C2.out Wb9) (fun e Wb13 hR => ?_)
        obtain ⟨rfl, hb⟩ := hR
        refine ⟨_, rfl, fun _ => Kb10.out.below hb, ?_⟩
        simp only [Act.put, List.setIfInBounds_toArray, List.set_cons_zero, List.set_cons_succ]
        have Kb14 := Lib.hid (Kb10.out.below hb)
        have Bb15 := Lib.hid (Bb11.out.trans (hb.mono Bb11.out.size))
        have Eb16 := Lib.hid (own_below (Eb12.out) (hb))
        clear hb
        refine Segs.WQ.acall 9 rfl (some 45) 32 #[.int .i64 x3] _ rfl rfl (fun W => by kernel_rfl) (C3.out Wb13) (fun e Wb17 hR => ?_)
        obtain ⟨rfl, hb⟩ := hR
        refine ⟨_, rfl, fun _ => Kb14.out.below hb, ?_⟩
        simp only [Act.put, List.setIfInBounds_toArray, List.set_cons_zero, List.set_cons_succ]
        have Kb18 := Lib.hid (Kb14.out.below hb)
        have Bb19 := Lib.hid (Bb15.out.trans (hb.mono Bb15.out.size))
        have Eb20 := Lib.hid (own_below (Eb16.out) (hb))
        clear hb
        refine Segs.WQ.acall 12 rfl (some 48) 33 #[.string x4] _ rfl rfl (fun W => by kernel_rfl) (C4.out Wb17) (fun e Wb21 hR => ?_)
        obtain ⟨rfl, hb⟩ := hR
        refine ⟨_, rfl, fun _ => Kb18.out.below hb, ?_⟩
        simp only [Act.put, List.setIfInBounds_toArray, List.set_cons_zero, List.set_cons_succ]
        have Kb22 := Lib.hid (Kb18.out.below hb)
        have Bb23 := Lib.hid (Bb19.out.trans (hb.mono Bb19.out.size))
        have Eb24 := Lib.hid (own_below (Eb20.out) (hb))
        clear hb
        refine Segs.WQ.acall 14 rfl (some 50) 31 #[u] _ rfl rfl (fun W => by kernel_rfl) (HSL.out ▸ rlist_own (xs := l.map chgB) Eb24.out HLL.out HLI.out) (fun e Wb25 hR => ?_)
        obtain ⟨rfl, hb⟩ := hR
        refine ⟨_, rfl, fun _ => Kb22.out.below hb, ?_⟩
        simp only [Act.put, List.setIfInBounds_toArray, List.set_cons_zero, List.set_cons_succ]
        have Kb26 := Lib.hid (Kb22.out.below hb)
        have Bb27 := Lib.hid (Bb23.out.trans (hb.mono Bb23.out.size))
        have Eb28 := Lib.hid (own_below (Eb24.out) (hb))
        clear hb
        obtain ⟨rb29, hrb29⟩ : ∃ n, n = Wb25.heap.size := ⟨_, rfl⟩
        refine Segs.WQ.aval 15 rfl (some 51) (.slice (some ⟨rb29, 0, none⟩) 6 6) (Wb25.alloc (.cells #[.string S0, .string S1, .string S2, .string S3, .string S4, .string S5] 9)) rfl rfl (by rw [hrb29]; exact Segs.run_slice_of 60 9 6 _ rfl _ Tryz.underlying60 (by kernel_rfl)) (fun _ => Kb26.out.alloc _) ?_
        simp only [Act.put, List.setIfInBounds_toArray, List.set_cons_zero, List.set_cons_succ]
        have Kb31 := Lib.hid (Kb26.out.alloc (.cells #[.string S0, .string S1, .string S2, .string S3, .string S4, .string S5] 9))
        have Bb32 := Lib.hid (Bb27.out.alloc Bb27.out.size (.cells #[.string S0, .string S1, .string S2, .string S3, .string S4, .string S5] 9))
        have Qb33 := Lib.hid (by have := Blk.new Wb25 9 #[.string S0, .string S1, .string S2, .string S3, .string S4, .string S5]; rw [← hrb29] at this; exact this)
        have Eb34 := Lib.hid (World.ownsRow.alloc (Eb28.out) (.cells #[.string S0, .string S1, .string S2, .string S3, .string S4, .string S5] 9))
        generalize Wb25.alloc (.cells #[.string S0, .string S1, .string S2, .string S3, .string S4, .string S5] 9) = Wb30 at Kb31 Bb32 Qb33 Eb34 ⊢
        clear hrb29
        refine Segs.WQ.acall 16 rfl (some 52) 31 #[.slice (some ⟨rb29, 0, none⟩) 6 6] _ rfl rfl (fun W => by kernel_rfl) (rlist_lit [S0, S1, S2, S3, S4, S5] rb29 Wb30 Qb33.out (by simp) (Nat.le_trans HD.out (by decide))) (fun e Wb35 hR => ?_)
        obtain ⟨rfl, hb⟩ := hR
        refine ⟨_, rfl, fun _ => Kb31.out.below hb, ?_⟩
        simp only [Act.put, List.setIfInBounds_toArray, List.set_cons_zero, List.set_cons_succ]
        have Kb36 := Lib.hid (Kb31.out.below hb)
        have Bb37 := Lib.hid (Bb32.out.trans (hb.mono Bb32.out.size))
        have Eb38 := Lib.hid (own_below (Eb34.out) (hb))
        clear hb
        refine Segs.WQ.aval 17 rfl (some 2) (.string (Nod.listB [S0, S1, S2, S3, S4, S5])) Wb35 rfl rfl (by kernel_rfl) (fun _ => Kb36.out) ?_
        simp only [Act.put, List.setIfInBounds_toArray, List.set_cons_zero, List.set_cons_succ]
        refine Segs.WQ.aval 18 rfl (some 3) (.int .i64 0) Wb35 rfl rfl (by kernel_rfl) (fun _ => Kb36.out) ?_
        simp only [Act.put, List.setIfInBounds_toArray, List.set_cons_zero, List.set_cons_succ]
        refine Segs.WQ.fin ?_
        go_wp2_with fail
        go_ret2
        exact ⟨rfl, Bb37.out⟩
end Go.Proofs.YtlbebdkockejcaaGreatDoor

/-
  The document's answer, package guillocheref14: Valid (written by makers/mdlrvalid.py).
-/
import Derived.Test.YtdahhnefcageeaaMdlRefK
import Derived.Test.YtdahhnefcageeaaWalkQ
namespace Go.Proofs.Mdl
open Go.Proofs.Ytdahhnefcageeaa
set_option linter.unusedVariables false
set_option linter.unusedSimpArgs false
def fineV (M : Mod) (j : Nat) (V : Ver) : Prop := 0 ≤ V.b ∧ (∀ i U, j = i + 1 → M.all[i]? = some U → U.b < V.b) ∧ checkN V.e = 0 ∧ 0 ≤ V.p ∧ V.p ≤ 1048576 ∧ keptR M V = true
theorem keptR_iff {M : Mod} {V : Ver} : keptR M V = true ↔ V.b = M.n - 1 ∨ held M V := by
  unfold keptR held
  simp only [Bool.or_eq_true, decide_eq_true_eq, or_assoc]
theorem rise_of_adj {L : List Ver} (h : ∀ (i : Nat) (U V : Ver), L[i]? = some U → L[i + 1]? = some V → U.b < V.b) : L.Pairwise (fun x y => x.b < y.b) := by
  rw [List.pairwise_iff_getElem]
  intro i j hi hj hij
  obtain ⟨d, rfl⟩ : ∃ d, j = i + 1 + d := ⟨j - (i + 1), by omega⟩
  induction d with
  | zero => exact h i _ _ (List.getElem?_eq_getElem hi) (List.getElem?_eq_getElem (by omega))
  | succ d ih =>
    have h1 := ih (by omega) (by omega)
    have h2 := h (i + 1 + d) _ _ (List.getElem?_eq_getElem (by omega)) (List.getElem?_eq_getElem (by omega))
    have h3 : L[i + 1 + d + 1].b = L[i + 1 + (d + 1)].b := rfl
    omega
theorem lastB_get : ∀ {l : List Ver} {a : Int} {k : Nat} {V : Ver}, l.length = k + 1 → l[k]? = some V → lastB a l = V.b
  | [], a, k, V, h, _ => by simp at h
  | [v], a, k, V, h, hV => by
    simp at h
    subst h
    simp at hV
    subst hV
    rfl
  | v :: u :: r, a, k, V, h, hV => by
    cases k with
    | zero => simp at h
    | succ k =>
      show lastB v.b (u :: r) = V.b
      exact lastB_get (k := k) (by simpa using h) (by simpa using hV)
theorem valid_of_fine {M : Mod} (hr : rightM M = true) (hf : ∀ (j : Nat) (V : Ver), M.all[j]? = some V → fineV M j V) : validM M = decide (lastB (-1) M.all = M.n - 1) := by
  have hw := (rightM_iff.1 hr).1
  unfold validM
  rw [hr, Bool.true_and]
  by_cases hl : lastB (-1) M.all = M.n - 1
  · rw [decide_eq_true hl]
    refine (vgo_iff hw).2 ⟨rise_of_adj (fun i U V hU hV => (hf (i + 1) V hV).2.1 i U rfl hU), fun V hV => ?_, hl⟩
    obtain ⟨j, hj⟩ := List.getElem?_of_mem hV
    obtain ⟨f1, f2, f3, f4, f5, f6⟩ := hf j V hj
    refine ⟨by omega, f4, f5, f3, ?_⟩
    rcases keptR_iff.1 f6 with h | h
    · exact .inl (by omega)
    · exact h
  · rw [decide_eq_false hl, Bool.eq_false_iff]
    intro h
    exact hl ((vgo_iff hw).1 h).2.2
theorem fine_of_valid {M : Mod} (h : validM M = true) {j : Nat} {V : Ver} (hV : M.all[j]? = some V) : fineV M j V := by
  unfold validM at h
  rw [Bool.and_eq_true] at h
  obtain ⟨h1, h2, h3⟩ := (vgo_iff (rightM_iff.1 h.1).1).1 h.2
  obtain ⟨k1, k2, k3, k4, k5⟩ := h2 V (List.mem_of_getElem? hV)
  refine ⟨by omega, fun i U e hU => ?_, k4, k2, k3, keptR_iff.2 (.inr k5)⟩
  subst e
  obtain ⟨a1, a2⟩ := List.getElem?_eq_some_iff.1 hU
  obtain ⟨b1, b2⟩ := List.getElem?_eq_some_iff.1 hV
  have := List.pairwise_iff_getElem.1 h1 i (i + 1) a1 b1 (Nat.lt_succ_self _)
  rw [a2, b2] at this
  exact this
end Go.Proofs.Mdl
namespace Go.Proofs.Ytdahhnefcageeaa
open Go.RowKit Go.Proofs.Mdl
set_option linter.unusedVariables false
set_option linter.unusedSimpArgs false
theorem run_nee {o : Oper} {a : Act} {W : World} {x y : Operand} (ho : o.op = .binOp .neq 32 x y 32) (i j : Int) (hx : a.eval x = .int .i64 i) (hy : a.eval y = .int .i64 j) (b : Bool) (h : decide (¬ i = j) = b) :
    (execOp a.eval o).run Try.prog W = .ok (.value (.bool b)) W := by
  subst h
  unfold execOp
  simp only [ho, hx, hy]
  simp [go_sem]
  by_cases h : i = j <;> simp [h]
theorem elemRV : Try.prog.underlying 35 = some (.slice 74) := by kernel_rfl
theorem sizeRV (W : World) : (sizeOf 74).run Try.prog W = .ok 4 W := by kernel_rfl
theorem isAggRows (w : World) : (isAgg 35).run Try.prog w = .ok false w := by kernel_rfl
theorem isAggEnts (w : World) : (isAgg 43).run Try.prog w = .ok false w := by kernel_rfl
theorem run_ldRV {o : Oper} {a : Act} {W : World} (x : Operand) (ho : o.op = .load 74 x) (b off : Nat) (hx : a.eval x = .pointer (some ⟨b, off, none⟩)) (v0 v1 v2 v3 : Value) (h : ∀ j v, [v0, v1, v2, v3][j]? = some v → W.cell? ⟨b, off + j, none⟩ = some v) : (execOp a.eval o).run Try.prog W = .ok (.value (.agg #[v0, v1, v2, v3])) W := by
  have hu : ∃ d, Try.prog.underlying 74 = some d ∧ d.isRow = true := ⟨_, Try.underlying74, rfl⟩
  obtain ⟨d, hu, hd⟩ := hu
  exact Segs.run_mid (ty := 74) (x := x) ho b off hx [v0, v1, v2, v3] d h hu hd (by kernel_rfl)
theorem run_ldRM {o : Oper} {a : Act} {W : World} (x : Operand) (ho : o.op = .load 37 x) (b off : Nat) (hx : a.eval x = .pointer (some ⟨b, off, none⟩)) (v0 v1 v2 : Value) (h : ∀ j v, [v0, v1, v2][j]? = some v → W.cell? ⟨b, off + j, none⟩ = some v) : (execOp a.eval o).run Try.prog W = .ok (.value (.agg #[v0, v1, v2])) W := by
  have hu : ∃ d, Try.prog.underlying 37 = some d ∧ d.isRow = true := ⟨_, Try.underlying37, rfl⟩
  obtain ⟨d, hu, hd⟩ := hu
  exact Segs.run_mid (ty := 37) (x := x) ho b off hx [v0, v1, v2] d h hu hd (by kernel_rfl)
theorem cells4 {W : World} {b off : Nat} {v0 v1 v2 v3 : Value} (h0 : W.cell? ⟨b, off, none⟩ = some v0) (h1 : W.cell? ⟨b, off + 1, none⟩ = some v1) (h2 : W.cell? ⟨b, off + 2, none⟩ = some v2) (h3 : W.cell? ⟨b, off + 3, none⟩ = some v3) : ∀ j v, [v0, v1, v2, v3][j]? = some v → W.cell? ⟨b, off + j, none⟩ = some v := by
  intro j v hj
  match j, hj with
  | 0, hj => cases hj; exact h0
  | 1, hj => cases hj; exact h1
  | 2, hj => cases hj; exact h2
  | 3, hj => cases hj; exact h3
  | j + 4, hj => simp at hj
theorem cells3 {W : World} {b off : Nat} {v0 v1 v2 : Value} (h0 : W.cell? ⟨b, off, none⟩ = some v0) (h1 : W.cell? ⟨b, off + 1, none⟩ = some v1) (h2 : W.cell? ⟨b, off + 2, none⟩ = some v2) : ∀ j v, [v0, v1, v2][j]? = some v → W.cell? ⟨b, off + j, none⟩ = some v := by
  intro j v hj
  match j, hj with
  | 0, hj => cases hj; exact h0
  | 1, hj => cases hj; exact h1
  | 2, hj => cases hj; exact h2
  | j + 3, hj => simp at hj
set_option maxRecDepth 100000 in
set_option maxHeartbeats 6000000 in
theorem rvalid_any {N : Nat → Prop} {w : World} {v : Value} {M : Mod} (h : Md N w v M) (hl : M.all.length ≤ 1000) (hle : ∀ V ∈ M.all, V.e.length ≤ 1000) :
    Calls Try.prog 16 #[v] w fun e w' => e = .returned (.bool (validM M)) ∧ Below w.heap.size w w' := by
  obtain ⟨u, rfl, hv⟩ := h
  obtain ⟨A, c, rfl⟩ := hv.shape
  have B1 := Lib.hid (Blk.new w 37 #[.int .i64 M.w, .int .i64 M.n, .slice A M.all.length c])
  have bb : Below w.heap.size w (w.alloc (.cells #[.int .i64 M.w, .int .i64 M.n, .slice A M.all.length c] 37)) := (Below.refl _ _).alloc (Nat.le_refl _) _
  have BB := Lib.hid bb
  have V1 := Lib.hid (hv.below bb)
  cases hR : rightM M with
  | false =>
    have HV : Hid (validM M = false) := Lib.hid (by unfold validM; rw [hR]; rfl)
    rw [HV.out]
    have HN : Hid (¬ (1 ≤ M.w ∧ M.w ≤ 8 ∧ 1 ≤ M.n ∧ M.n ≤ 1048576 ∧ 0 < M.all.length)) := Lib.hid (fun h => by rw [rightM_iff.2 h] at hR; cases hR)
    clear hR hv bb
    by_cases hz : (M.all.length : Int) = 0
    · have hq : ((M.all.length : Int) == 0) = true := beq_iff_eq.2 hz
      clear hz
      go_enter Try.func16, Try.ntmps16
      go_upto_region 3 with (fail)
      all_goals
        go_ret
        exact ⟨rfl, BB.out⟩
    · have hq : ((M.all.length : Int) == 0) = false := beq_eq_false_iff_ne.2 hz
      go_enter Try.func16, Try.ntmps16
      go_upto_region 3 with (fail)
      all_goals
        first
          | (go_ret; exact ⟨rfl, BB.out⟩)
          | (exfalso; have := HN.out; omega)
  | true =>
    obtain ⟨r1, r2, r3, r4, r5⟩ := rightM_iff.1 hR
    have hq : ((M.all.length : Int) == 0) = false := beq_eq_false_iff_ne.2 (by omega)
    have g1 : ¬ M.w < 1 := by omega
    have g2 : ¬ M.w > 8 := by omega
    have g3 : ¬ M.n < 1 := by omega
    have g4 : ¬ M.n > 1048576 := by omega
    have HRT := Lib.hid hR
    obtain ⟨z, hz⟩ : ∃ z, z = M.all.length := ⟨_, rfl⟩
    have HZ := Lib.hid hz
    have wn : IntKind.i64.wrap (M.n - 1) = M.n - 1 := IntWalk.i64_in _ (by omega)
    have q1 := B1.out.cell 1
    simp only [List.getElem?_toArray, List.getElem?_cons_succ, List.getElem?_cons_zero] at q1
    rw [← hz] at B1 BB V1 q1 hq r5 hl ⊢
    clear hR hv bb hz
    go_enter Try.func16, Try.ntmps16
    go_upto_region 4 with (fail)
    have GS := Lib.hid (Nat.lt_of_lt_of_eq (Nat.lt_succ_self w.heap.size) (World.size_alloc w (.cells #[.int .i64 M.w, .int .i64 M.n, .slice A z c] 37)).symm)
    generalize w.alloc (.cells #[.int .i64 M.w, .int .i64 M.n, .slice A z c] 37) = w1 at *
    obtain ⟨g, hg⟩ : ∃ g, g = w.heap.size := ⟨_, rfl⟩
    rw [← hg] at B1 GS q1 ⊢
    clear hg
    have q2 := B1.out.cell 2
    have q0 := B1.out.cell 0
    simp only [List.getElem?_toArray, List.getElem?_cons_succ, List.getElem?_cons_zero] at q0 q2
    have MC : Hid (∀ W, Below w1.heap.size w1 W → W.cell? ⟨g, 0, none⟩ = some (.int .i64 M.w) ∧ W.cell? ⟨g, 1, none⟩ = some (.int .i64 M.n) ∧ W.cell? ⟨g, 2, none⟩ = some (.slice A z c)) := Lib.hid (fun W hW => ⟨(hW.cell (p := ⟨g, 0, none⟩) GS.out).trans q0, (hW.cell (p := ⟨g, 1, none⟩) GS.out).trans q1, (hW.cell (p := ⟨g, 2, none⟩) GS.out).trans q2⟩)
    go_loopw [3, 4] (fun vi _ wr => ∃ (k : Nat), vi = .int .i64 (k : Int) ∧ k ≤ z ∧ Hid (∀ (j : Nat) (V : Ver), j < k → M.all[j]? = some V → fineV M j V) ∧ Hid (Bl w1.heap.size w1 wr)) (fun vi _ _ => z - (intOf vi).toNat)
    case atStart => exact ⟨0, rfl, Nat.zero_le _, Lib.hid (fun j V hj => by omega), Lib.hid (Bl.start w1)⟩
    case round =>
      clear q0 q1 q2
      obtain ⟨k, rfl, hk, HF, BW⟩ := hrel
      have wk : IntKind.i64.wrap ((k : Int) + 1) = (k : Int) + 1 := IntWalk.i64_in _ (by omega)
      obtain ⟨q0, q1, q2⟩ := MC.out _ BW.out.1
      by_cases hlt : k < z
      · obtain ⟨V, hV⟩ : ∃ V, M.all[k]? = some V := ⟨_, List.getElem?_eq_getElem (by rw [← HZ.out]; exact hlt)⟩
        obtain ⟨b, o, c', ve, vc, hv, hbl, he, hc, d0, d1, d2, d3⟩ := (V1.out.below BW.out.1).at_ hV
        obtain ⟨Ae, ce, rfl⟩ := he.toEs.shape
        obtain ⟨Ac, cc, rfl⟩ := hc.toCs.shape
        rw [← HZ.out] at hv
        simp only [Value.slice.injEq] at hv
        obtain ⟨rfl, -, rfl⟩ := hv
        have i1 : (k : Int) < (z : Int) := by omega
        have bl5 : Below wr.heap.size wr (wr.alloc (.cells #[.int .i64 V.b, .slice Ae V.e.length ce, .slice Ac V.c.length cc, .int .i64 V.p] 74)) := (Below.refl _ _).alloc (Nat.le_refl _) _
        have B5 := Lib.hid (Blk.new wr 74 #[.int .i64 V.b, .slice Ae V.e.length ce, .slice Ac V.c.length cc, .int .i64 V.p])
        have BW5 := Lib.hid (BW.out.call bl5)
        have HE := Lib.hid (he.toEs.below bl5)
        have LE := Lib.hid (hle V (List.mem_of_getElem? hV))
        have BADH : Hid (¬ fineV M k V → validM M = false) := Lib.hid (fun hn => by
          rw [Bool.eq_false_iff]
          exact fun h => hn (fine_of_valid h hV))
        have GOODH : Hid (fineV M k V → ∀ (j : Nat) (U : Ver), j < k + 1 → M.all[j]? = some U → fineV M j U) := Lib.hid (fun hf j U hj hU => by
          by_cases e : j = k
          · subst e
            rw [hV] at hU
            cases hU
            exact hf
          · exact HF.out j U (by omega) hU)
        clear he hc
        go_upto_region 7 with (fail)
        clear d0 d1 d2 d3 hbl bl5 q0 q1 q2
        generalize wr.alloc (.cells #[.int .i64 V.b, .slice Ae V.e.length ce, .slice Ac V.c.length cc, .int .i64 V.p] 74) = w5 at *
        obtain ⟨g5, hg5⟩ : ∃ g5, g5 = wr.heap.size := ⟨_, rfl⟩
        rw [← hg5] at B5 ⊢
        clear hg5
        have CK : Hid (∀ W, Below w5.heap.size w5 W → Calls Try.prog 36 #[.slice Ae V.e.length ce] W fun e w' => e = .returned (.int .i64 (checkN V.e)) ∧ Segs.Hist W w') := Lib.hid (fun W hW => (rcheck_any (HE.out.below hW) LE.out).mono (fun e w' h => ⟨h.1, drew_bel h.2⟩))
        have KP := Lib.hid (fun W => rkept_any (w := W) (M := M) (V := V) (Au := some ⟨b, o, none⟩) (nu := z) (cu := c) (Ae := Ae) (ne := V.e.length) (ce := ce) (Ac := Ac) (nc := V.c.length) (cc := cc) r1 r2 r3 r4)
        have ST : Hid (∀ W, Below w5.heap.size w5 W → W.cell? ⟨g, 0, none⟩ = some (.int .i64 M.w) ∧ W.cell? ⟨g, 1, none⟩ = some (.int .i64 M.n) ∧ W.cell? ⟨g, 2, none⟩ = some (.slice (some ⟨b, o, none⟩) z c) ∧ W.cell? ⟨g5, 0, none⟩ = some (.int .i64 V.b) ∧ W.cell? ⟨g5, 1, none⟩ = some (.slice Ae V.e.length ce) ∧ W.cell? ⟨g5, 2, none⟩ = some (.slice Ac V.c.length cc) ∧ W.cell? ⟨g5, 3, none⟩ = some (.int .i64 V.p)) := Lib.hid (fun W hW => by
          have MM := MC.out _ (bel_trans' BW5.out.1 hW)
          have BB5 := B5.out.below hW
          exact ⟨MM.1, MM.2.1, MM.2.2, by simpa using BB5.cell 0, by simpa using BB5.cell 1, by simpa using BB5.cell 2, by simpa using BB5.cell 3⟩)
        by_cases hk0 : k = 0
        · have K0 : Hid (decide ((k : Int) > 0) = false) := Lib.hid (decide_eq_false (by omega))
          by_cases t1 : V.b < 0
          · have BD : Hid (validM M = false) := Lib.hid (BADH.out (fun h => by have := h.1; omega))
            have K1 : Hid (decide (V.b < 0) = true) := Lib.hid (decide_eq_true (t1))
            have HB0 := Lib.hid (Bl.start w5)
            refine Segs.wp_region_perm Segs.Hist [(0, false), (1, false), (2, false), (3, false), (4, false), (5, false), (6, false), (7, false), (8, false), (9, false), (10, false), (11, false), (12, false), (13, false), (14, false), (15, false), (16, false), (17, false), (18, false), (19, false), (20, false), (21, false), (22, false), (23, false), (24, false), (25, false), (26, false), (27, false), (28, false), (29, false), (30, false), (31, false), (32, false), (33, false), (34, false), (35, false), (36, false), (37, false), (38, false), (39, false), (40, false)] Segs.Hist.refl Segs.Hist.trans (by kernel_rfl) (by kernel_rfl) rfl (by kernel_rfl) (Segs.WP.out ?_)
            have B2 := Lib.hid HB0.out.drew
            generalize w5.drew = W1 at B2 ⊢
            refine Segs.WP.val 0 rfl (some 41) (.pointer (some ⟨g5, 0, none⟩)) rfl (by kernel_rfl) (fun WW h => by kernel_rfl) ?_
            simp only [Act.put, List.setIfInBounds_toArray, List.set_cons_zero, List.set_cons_succ]
            refine Segs.WP.val 1 rfl (some 42) (.int .i64 (V.b)) rfl (by kernel_rfl) (fun WW h => Segs.run_cell 3 (.tmp 41) rfl g5 0 (by kernel_rfl) _ (isAggInt _) ((ST.out WW (B2.out.call h).1).2.2.2.1)) ?_
            simp only [Act.put, List.setIfInBounds_toArray, List.set_cons_zero, List.set_cons_succ]
            refine Segs.WP.val 2 rfl (some 43) (.bool true) rfl (by kernel_rfl) (fun WW h => run_lti rfl _ _ (by kernel_rfl) (by kernel_rfl) true K1.out) ?_
            simp only [Act.put, List.setIfInBounds_toArray, List.set_cons_zero, List.set_cons_succ]
            refine Segs.WP.val 3 rfl (some 44) (.bool true) rfl (by kernel_rfl) (fun WW h => by kernel_rfl) ?_
            simp only [Act.put, List.setIfInBounds_toArray, List.set_cons_zero, List.set_cons_succ]
            refine Segs.WP.not 4 rfl (some 45) rfl (by kernel_rfl) ?_
            simp only [Act.put, List.setIfInBounds_toArray, List.set_cons_zero, List.set_cons_succ]
            refine Segs.WP.not 5 rfl (some 46) rfl (by kernel_rfl) ?_
            simp only [Act.put, List.setIfInBounds_toArray, List.set_cons_zero, List.set_cons_succ]
            refine Segs.WP.not 6 rfl (some 47) rfl (by kernel_rfl) ?_
            simp only [Act.put, List.setIfInBounds_toArray, List.set_cons_zero, List.set_cons_succ]
            refine Segs.WP.not 7 rfl (some 48) rfl (by kernel_rfl) ?_
            simp only [Act.put, List.setIfInBounds_toArray, List.set_cons_zero, List.set_cons_succ]
            refine Segs.WP.not 8 rfl (some 49) rfl (by kernel_rfl) ?_
            simp only [Act.put, List.setIfInBounds_toArray, List.set_cons_zero, List.set_cons_succ]
            refine Segs.WP.not 9 rfl (some 50) rfl (by kernel_rfl) ?_
            simp only [Act.put, List.setIfInBounds_toArray, List.set_cons_zero, List.set_cons_succ]
            refine Segs.WP.not 10 rfl (some 51) rfl (by kernel_rfl) ?_
            simp only [Act.put, List.setIfInBounds_toArray, List.set_cons_zero, List.set_cons_succ]
            refine Segs.WP.not 11 rfl (some 52) rfl (by kernel_rfl) ?_
            simp only [Act.put, List.setIfInBounds_toArray, List.set_cons_zero, List.set_cons_succ]
            refine Segs.WP.not 12 rfl (some 53) rfl (by kernel_rfl) ?_
            simp only [Act.put, List.setIfInBounds_toArray, List.set_cons_zero, List.set_cons_succ]
            refine Segs.WP.not 13 rfl (some 54) rfl (by kernel_rfl) ?_
            simp only [Act.put, List.setIfInBounds_toArray, List.set_cons_zero, List.set_cons_succ]
            refine Segs.WP.not 14 rfl (some 55) rfl (by kernel_rfl) ?_
            simp only [Act.put, List.setIfInBounds_toArray, List.set_cons_zero, List.set_cons_succ]
            refine Segs.WP.not 15 rfl (some 56) rfl (by kernel_rfl) ?_
            simp only [Act.put, List.setIfInBounds_toArray, List.set_cons_zero, List.set_cons_succ]
            refine Segs.WP.not 16 rfl (some 57) rfl (by kernel_rfl) ?_
            simp only [Act.put, List.setIfInBounds_toArray, List.set_cons_zero, List.set_cons_succ]
            refine Segs.WP.not 17 rfl (some 58) rfl (by kernel_rfl) ?_
            simp only [Act.put, List.setIfInBounds_toArray, List.set_cons_zero, List.set_cons_succ]
            refine Segs.WP.val 18 rfl (some 59) (.bool true) rfl (by kernel_rfl) (fun WW h => by kernel_rfl) ?_
            simp only [Act.put, List.setIfInBounds_toArray, List.set_cons_zero, List.set_cons_succ]
            refine Segs.WP.val 19 rfl (some 60) (.bool true) rfl (by kernel_rfl) (fun WW h => by kernel_rfl) ?_
            simp only [Act.put, List.setIfInBounds_toArray, List.set_cons_zero, List.set_cons_succ]
            refine Segs.WP.not 20 rfl (some 61) rfl (by kernel_rfl) ?_
            simp only [Act.put, List.setIfInBounds_toArray, List.set_cons_zero, List.set_cons_succ]
            refine Segs.WP.not 21 rfl (some 62) rfl (by kernel_rfl) ?_
            simp only [Act.put, List.setIfInBounds_toArray, List.set_cons_zero, List.set_cons_succ]
            refine Segs.WP.not 22 rfl (some 63) rfl (by kernel_rfl) ?_
            simp only [Act.put, List.setIfInBounds_toArray, List.set_cons_zero, List.set_cons_succ]
            refine Segs.WP.not 23 rfl (some 64) rfl (by kernel_rfl) ?_
            simp only [Act.put, List.setIfInBounds_toArray, List.set_cons_zero, List.set_cons_succ]
            refine Segs.WP.val 24 rfl (some 65) (.bool true) rfl (by kernel_rfl) (fun WW h => by kernel_rfl) ?_
            simp only [Act.put, List.setIfInBounds_toArray, List.set_cons_zero, List.set_cons_succ]
            refine Segs.WP.val 25 rfl (some 66) (.bool true) rfl (by kernel_rfl) (fun WW h => by kernel_rfl) ?_
            simp only [Act.put, List.setIfInBounds_toArray, List.set_cons_zero, List.set_cons_succ]
            refine Segs.WP.not 26 rfl (some 67) rfl (by kernel_rfl) ?_
            simp only [Act.put, List.setIfInBounds_toArray, List.set_cons_zero, List.set_cons_succ]
            refine Segs.WP.not 27 rfl (some 68) rfl (by kernel_rfl) ?_
            simp only [Act.put, List.setIfInBounds_toArray, List.set_cons_zero, List.set_cons_succ]
            refine Segs.WP.not 28 rfl (some 69) rfl (by kernel_rfl) ?_
            simp only [Act.put, List.setIfInBounds_toArray, List.set_cons_zero, List.set_cons_succ]
            refine Segs.WP.val 29 rfl (some 70) (.bool true) rfl (by kernel_rfl) (fun WW h => by kernel_rfl) ?_
            simp only [Act.put, List.setIfInBounds_toArray, List.set_cons_zero, List.set_cons_succ]
            refine Segs.WP.val 30 rfl (some 71) (.bool true) rfl (by kernel_rfl) (fun WW h => by kernel_rfl) ?_
            simp only [Act.put, List.setIfInBounds_toArray, List.set_cons_zero, List.set_cons_succ]
            refine Segs.WP.not 31 rfl (some 72) rfl (by kernel_rfl) ?_
            simp only [Act.put, List.setIfInBounds_toArray, List.set_cons_zero, List.set_cons_succ]
            refine Segs.WP.not 32 rfl (some 73) rfl (by kernel_rfl) ?_
            simp only [Act.put, List.setIfInBounds_toArray, List.set_cons_zero, List.set_cons_succ]
            refine Segs.WP.not 33 rfl (some 74) rfl (by kernel_rfl) ?_
            simp only [Act.put, List.setIfInBounds_toArray, List.set_cons_zero, List.set_cons_succ]
            refine Segs.WP.val 34 rfl (some 75) (.bool true) rfl (by kernel_rfl) (fun WW h => by kernel_rfl) ?_
            simp only [Act.put, List.setIfInBounds_toArray, List.set_cons_zero, List.set_cons_succ]
            refine Segs.WP.val 35 rfl (some 76) (.bool true) rfl (by kernel_rfl) (fun WW h => by kernel_rfl) ?_
            simp only [Act.put, List.setIfInBounds_toArray, List.set_cons_zero, List.set_cons_succ]
            refine Segs.WP.not 36 rfl (some 77) rfl (by kernel_rfl) ?_
            simp only [Act.put, List.setIfInBounds_toArray, List.set_cons_zero, List.set_cons_succ]
            refine Segs.WP.not 37 rfl (some 78) rfl (by kernel_rfl) ?_
            simp only [Act.put, List.setIfInBounds_toArray, List.set_cons_zero, List.set_cons_succ]
            refine Segs.WP.not 38 rfl (some 79) rfl (by kernel_rfl) ?_
            simp only [Act.put, List.setIfInBounds_toArray, List.set_cons_zero, List.set_cons_succ]
            refine Segs.WP.not 39 rfl (some 80) rfl (by kernel_rfl) ?_
            simp only [Act.put, List.setIfInBounds_toArray, List.set_cons_zero, List.set_cons_succ]
            refine Segs.WP.val 40 rfl (some 81) (.bool true) rfl (by kernel_rfl) (fun WW h => by kernel_rfl) ?_
            simp only [Act.put, List.setIfInBounds_toArray, List.set_cons_zero, List.set_cons_succ]
            refine Segs.WP.fin (fun W3 hx => ?_)
            have B4 := Lib.hid (B2.out.call hx)
            clear hx
            go_wp2_with fail
            go_ret
            exact ⟨retB BD.out.symm, bel_trans' BB.out (BW5.out.call B4.out.1).1⟩
          · have K1 : Hid (decide (V.b < 0) = false) := Lib.hid (decide_eq_false (t1))
            by_cases t3 : checkN V.e = 0
            · have K3 : Hid (decide (¬ checkN V.e = 0) = false) := Lib.hid (decide_eq_false (fun h => h t3))
              by_cases t4 : V.p < 0
              · have BD : Hid (validM M = false) := Lib.hid (BADH.out (fun h => by have := h.2.2.2.1; omega))
                have K4 : Hid (decide (V.p < 0) = true) := Lib.hid (decide_eq_true (t4))
                clear t3
                have HB0 := Lib.hid (Bl.start w5)
                refine Segs.wp_region_perm Segs.Hist [(0, false), (1, false), (2, false), (3, false), (4, false), (5, false), (6, false), (7, false), (8, false), (9, false), (10, false), (11, false), (12, false), (13, false), (14, false), (15, false), (16, false), (17, false), (18, false), (19, false), (20, false), (21, false), (22, false), (23, false), (24, false), (25, false), (26, false), (27, false), (28, false), (29, false), (30, false), (31, false), (32, false), (33, false), (34, false), (35, false), (36, false), (37, false), (38, false), (39, false), (40, false)] Segs.Hist.refl Segs.Hist.trans (by kernel_rfl) (by kernel_rfl) rfl (by kernel_rfl) (Segs.WP.out ?_)
                have B2 := Lib.hid HB0.out.drew
                generalize w5.drew = W1 at B2 ⊢
                refine Segs.WP.val 0 rfl (some 41) (.pointer (some ⟨g5, 0, none⟩)) rfl (by kernel_rfl) (fun WW h => by kernel_rfl) ?_
                simp only [Act.put, List.setIfInBounds_toArray, List.set_cons_zero, List.set_cons_succ]
                refine Segs.WP.val 1 rfl (some 42) (.int .i64 (V.b)) rfl (by kernel_rfl) (fun WW h => Segs.run_cell 3 (.tmp 41) rfl g5 0 (by kernel_rfl) _ (isAggInt _) ((ST.out WW (B2.out.call h).1).2.2.2.1)) ?_
                simp only [Act.put, List.setIfInBounds_toArray, List.set_cons_zero, List.set_cons_succ]
                refine Segs.WP.val 2 rfl (some 43) (.bool false) rfl (by kernel_rfl) (fun WW h => run_lti rfl _ _ (by kernel_rfl) (by kernel_rfl) false K1.out) ?_
                simp only [Act.put, List.setIfInBounds_toArray, List.set_cons_zero, List.set_cons_succ]
                refine Segs.WP.val 3 rfl (some 44) (.bool false) rfl (by kernel_rfl) (fun WW h => by kernel_rfl) ?_
                simp only [Act.put, List.setIfInBounds_toArray, List.set_cons_zero, List.set_cons_succ]
                refine Segs.WP.val 4 rfl (some 45) (.int .i64 ((k : Int))) rfl (by kernel_rfl) (fun WW h => by kernel_rfl) ?_
                simp only [Act.put, List.setIfInBounds_toArray, List.set_cons_zero, List.set_cons_succ]
                refine Segs.WP.val 5 rfl (some 46) (.bool false) rfl (by kernel_rfl) (fun WW h => run_gti rfl _ _ (by kernel_rfl) (by kernel_rfl) false K0.out) ?_
                simp only [Act.put, List.setIfInBounds_toArray, List.set_cons_zero, List.set_cons_succ]
                refine Segs.WP.val 6 rfl (some 47) (.bool false) rfl (by kernel_rfl) (fun WW h => by kernel_rfl) ?_
                simp only [Act.put, List.setIfInBounds_toArray, List.set_cons_zero, List.set_cons_succ]
                refine Segs.WP.not 7 rfl (some 48) rfl (by kernel_rfl) ?_
                simp only [Act.put, List.setIfInBounds_toArray, List.set_cons_zero, List.set_cons_succ]
                refine Segs.WP.not 8 rfl (some 49) rfl (by kernel_rfl) ?_
                simp only [Act.put, List.setIfInBounds_toArray, List.set_cons_zero, List.set_cons_succ]
                refine Segs.WP.not 9 rfl (some 50) rfl (by kernel_rfl) ?_
                simp only [Act.put, List.setIfInBounds_toArray, List.set_cons_zero, List.set_cons_succ]
                refine Segs.WP.not 10 rfl (some 51) rfl (by kernel_rfl) ?_
                simp only [Act.put, List.setIfInBounds_toArray, List.set_cons_zero, List.set_cons_succ]
                refine Segs.WP.not 11 rfl (some 52) rfl (by kernel_rfl) ?_
                simp only [Act.put, List.setIfInBounds_toArray, List.set_cons_zero, List.set_cons_succ]
                refine Segs.WP.not 12 rfl (some 53) rfl (by kernel_rfl) ?_
                simp only [Act.put, List.setIfInBounds_toArray, List.set_cons_zero, List.set_cons_succ]
                refine Segs.WP.not 13 rfl (some 54) rfl (by kernel_rfl) ?_
                simp only [Act.put, List.setIfInBounds_toArray, List.set_cons_zero, List.set_cons_succ]
                refine Segs.WP.not 14 rfl (some 55) rfl (by kernel_rfl) ?_
                simp only [Act.put, List.setIfInBounds_toArray, List.set_cons_zero, List.set_cons_succ]
                refine Segs.WP.not 15 rfl (some 56) rfl (by kernel_rfl) ?_
                simp only [Act.put, List.setIfInBounds_toArray, List.set_cons_zero, List.set_cons_succ]
                refine Segs.WP.not 16 rfl (some 57) rfl (by kernel_rfl) ?_
                simp only [Act.put, List.setIfInBounds_toArray, List.set_cons_zero, List.set_cons_succ]
                refine Segs.WP.val 17 rfl (some 58) (.bool false) rfl (by kernel_rfl) (fun WW h => by kernel_rfl) ?_
                simp only [Act.put, List.setIfInBounds_toArray, List.set_cons_zero, List.set_cons_succ]
                refine Segs.WP.val 18 rfl (some 59) (.bool false) rfl (by kernel_rfl) (fun WW h => by kernel_rfl) ?_
                simp only [Act.put, List.setIfInBounds_toArray, List.set_cons_zero, List.set_cons_succ]
                refine Segs.WP.val 19 rfl (some 60) (.bool false) rfl (by kernel_rfl) (fun WW h => by kernel_rfl) ?_
                simp only [Act.put, List.setIfInBounds_toArray, List.set_cons_zero, List.set_cons_succ]
                refine Segs.WP.val 20 rfl (some 61) (.pointer (some ⟨g5, 1, none⟩)) rfl (by kernel_rfl) (fun WW h => by kernel_rfl) ?_
                simp only [Act.put, List.setIfInBounds_toArray, List.set_cons_zero, List.set_cons_succ]
                refine Segs.WP.val 21 rfl (some 62) (.slice Ae V.e.length ce) rfl (by kernel_rfl) (fun WW h => Segs.run_cell 43 (.tmp 61) rfl g5 1 (by kernel_rfl) _ (isAggEnts _) ((ST.out WW (B2.out.call h).1).2.2.2.2.1)) ?_
                simp only [Act.put, List.setIfInBounds_toArray, List.set_cons_zero, List.set_cons_succ]
                refine Segs.WP.call 22 rfl (some 63) 36 #[.slice Ae V.e.length ce] (.int .i64 (checkN V.e)) rfl (by kernel_rfl) (fun W => by kernel_rfl) (fun WW h => (CK.out WW (B2.out.call h).1)) ?_
                simp only [Act.put, List.setIfInBounds_toArray, List.set_cons_zero, List.set_cons_succ]
                refine Segs.WP.val 23 rfl (some 64) (.bool false) rfl (by kernel_rfl) (fun WW h => run_nee rfl _ _ (by kernel_rfl) (by kernel_rfl) false K3.out) ?_
                simp only [Act.put, List.setIfInBounds_toArray, List.set_cons_zero, List.set_cons_succ]
                refine Segs.WP.val 24 rfl (some 65) (.bool false) rfl (by kernel_rfl) (fun WW h => by kernel_rfl) ?_
                simp only [Act.put, List.setIfInBounds_toArray, List.set_cons_zero, List.set_cons_succ]
                refine Segs.WP.val 25 rfl (some 66) (.bool false) rfl (by kernel_rfl) (fun WW h => by kernel_rfl) ?_
                simp only [Act.put, List.setIfInBounds_toArray, List.set_cons_zero, List.set_cons_succ]
                refine Segs.WP.val 26 rfl (some 67) (.pointer (some ⟨g5, 3, none⟩)) rfl (by kernel_rfl) (fun WW h => by kernel_rfl) ?_
                simp only [Act.put, List.setIfInBounds_toArray, List.set_cons_zero, List.set_cons_succ]
                refine Segs.WP.val 27 rfl (some 68) (.int .i64 (V.p)) rfl (by kernel_rfl) (fun WW h => Segs.run_cell 3 (.tmp 67) rfl g5 3 (by kernel_rfl) _ (isAggInt _) ((ST.out WW (B2.out.call h).1).2.2.2.2.2.2)) ?_
                simp only [Act.put, List.setIfInBounds_toArray, List.set_cons_zero, List.set_cons_succ]
                refine Segs.WP.val 28 rfl (some 69) (.bool true) rfl (by kernel_rfl) (fun WW h => run_lti rfl _ _ (by kernel_rfl) (by kernel_rfl) true K4.out) ?_
                simp only [Act.put, List.setIfInBounds_toArray, List.set_cons_zero, List.set_cons_succ]
                refine Segs.WP.val 29 rfl (some 70) (.bool true) rfl (by kernel_rfl) (fun WW h => by kernel_rfl) ?_
                simp only [Act.put, List.setIfInBounds_toArray, List.set_cons_zero, List.set_cons_succ]
                refine Segs.WP.val 30 rfl (some 71) (.bool true) rfl (by kernel_rfl) (fun WW h => by kernel_rfl) ?_
                simp only [Act.put, List.setIfInBounds_toArray, List.set_cons_zero, List.set_cons_succ]
                refine Segs.WP.not 31 rfl (some 72) rfl (by kernel_rfl) ?_
                simp only [Act.put, List.setIfInBounds_toArray, List.set_cons_zero, List.set_cons_succ]
                refine Segs.WP.not 32 rfl (some 73) rfl (by kernel_rfl) ?_
                simp only [Act.put, List.setIfInBounds_toArray, List.set_cons_zero, List.set_cons_succ]
                refine Segs.WP.not 33 rfl (some 74) rfl (by kernel_rfl) ?_
                simp only [Act.put, List.setIfInBounds_toArray, List.set_cons_zero, List.set_cons_succ]
                refine Segs.WP.val 34 rfl (some 75) (.bool true) rfl (by kernel_rfl) (fun WW h => by kernel_rfl) ?_
                simp only [Act.put, List.setIfInBounds_toArray, List.set_cons_zero, List.set_cons_succ]
                refine Segs.WP.val 35 rfl (some 76) (.bool true) rfl (by kernel_rfl) (fun WW h => by kernel_rfl) ?_
                simp only [Act.put, List.setIfInBounds_toArray, List.set_cons_zero, List.set_cons_succ]
                refine Segs.WP.not 36 rfl (some 77) rfl (by kernel_rfl) ?_
                simp only [Act.put, List.setIfInBounds_toArray, List.set_cons_zero, List.set_cons_succ]
                refine Segs.WP.not 37 rfl (some 78) rfl (by kernel_rfl) ?_
                simp only [Act.put, List.setIfInBounds_toArray, List.set_cons_zero, List.set_cons_succ]
                refine Segs.WP.not 38 rfl (some 79) rfl (by kernel_rfl) ?_
                simp only [Act.put, List.setIfInBounds_toArray, List.set_cons_zero, List.set_cons_succ]
                refine Segs.WP.not 39 rfl (some 80) rfl (by kernel_rfl) ?_
                simp only [Act.put, List.setIfInBounds_toArray, List.set_cons_zero, List.set_cons_succ]
                refine Segs.WP.val 40 rfl (some 81) (.bool true) rfl (by kernel_rfl) (fun WW h => by kernel_rfl) ?_
                simp only [Act.put, List.setIfInBounds_toArray, List.set_cons_zero, List.set_cons_succ]
                refine Segs.WP.fin (fun W3 hx => ?_)
                have B4 := Lib.hid (B2.out.call hx)
                clear hx
                go_wp2_with fail
                go_ret
                exact ⟨retB BD.out.symm, bel_trans' BB.out (BW5.out.call B4.out.1).1⟩
              · have K4 : Hid (decide (V.p < 0) = false) := Lib.hid (decide_eq_false (t4))
                by_cases t5 : V.p > 1048576
                · have BD : Hid (validM M = false) := Lib.hid (BADH.out (fun h => by have := h.2.2.2.2.1; omega))
                  have K5 : Hid (decide (V.p > 1048576) = true) := Lib.hid (decide_eq_true (t5))
                  clear t3
                  have HB0 := Lib.hid (Bl.start w5)
                  refine Segs.wp_region_perm Segs.Hist [(0, false), (1, false), (2, false), (3, false), (4, false), (5, false), (6, false), (7, false), (8, false), (9, false), (10, false), (11, false), (12, false), (13, false), (14, false), (15, false), (16, false), (17, false), (18, false), (19, false), (20, false), (21, false), (22, false), (23, false), (24, false), (25, false), (26, false), (27, false), (28, false), (29, false), (30, false), (31, false), (32, false), (33, false), (34, false), (35, false), (36, false), (37, false), (38, false), (39, false), (40, false)] Segs.Hist.refl Segs.Hist.trans (by kernel_rfl) (by kernel_rfl) rfl (by kernel_rfl) (Segs.WP.out ?_)
                  have B2 := Lib.hid HB0.out.drew
                  generalize w5.drew = W1 at B2 ⊢
                  refine Segs.WP.val 0 rfl (some 41) (.pointer (some ⟨g5, 0, none⟩)) rfl (by kernel_rfl) (fun WW h => by kernel_rfl) ?_
                  simp only [Act.put, List.setIfInBounds_toArray, List.set_cons_zero, List.set_cons_succ]
                  refine Segs.WP.val 1 rfl (some 42) (.int .i64 (V.b)) rfl (by kernel_rfl) (fun WW h => Segs.run_cell 3 (.tmp 41) rfl g5 0 (by kernel_rfl) _ (isAggInt _) ((ST.out WW (B2.out.call h).1).2.2.2.1)) ?_
                  simp only [Act.put, List.setIfInBounds_toArray, List.set_cons_zero, List.set_cons_succ]
                  refine Segs.WP.val 2 rfl (some 43) (.bool false) rfl (by kernel_rfl) (fun WW h => run_lti rfl _ _ (by kernel_rfl) (by kernel_rfl) false K1.out) ?_
                  simp only [Act.put, List.setIfInBounds_toArray, List.set_cons_zero, List.set_cons_succ]
                  refine Segs.WP.val 3 rfl (some 44) (.bool false) rfl (by kernel_rfl) (fun WW h => by kernel_rfl) ?_
                  simp only [Act.put, List.setIfInBounds_toArray, List.set_cons_zero, List.set_cons_succ]
                  refine Segs.WP.val 4 rfl (some 45) (.int .i64 ((k : Int))) rfl (by kernel_rfl) (fun WW h => by kernel_rfl) ?_
                  simp only [Act.put, List.setIfInBounds_toArray, List.set_cons_zero, List.set_cons_succ]
                  refine Segs.WP.val 5 rfl (some 46) (.bool false) rfl (by kernel_rfl) (fun WW h => run_gti rfl _ _ (by kernel_rfl) (by kernel_rfl) false K0.out) ?_
                  simp only [Act.put, List.setIfInBounds_toArray, List.set_cons_zero, List.set_cons_succ]
                  refine Segs.WP.val 6 rfl (some 47) (.bool false) rfl (by kernel_rfl) (fun WW h => by kernel_rfl) ?_
                  simp only [Act.put, List.setIfInBounds_toArray, List.set_cons_zero, List.set_cons_succ]
                  refine Segs.WP.not 7 rfl (some 48) rfl (by kernel_rfl) ?_
                  simp only [Act.put, List.setIfInBounds_toArray, List.set_cons_zero, List.set_cons_succ]
                  refine Segs.WP.not 8 rfl (some 49) rfl (by kernel_rfl) ?_
                  simp only [Act.put, List.setIfInBounds_toArray, List.set_cons_zero, List.set_cons_succ]
                  refine Segs.WP.not 9 rfl (some 50) rfl (by kernel_rfl) ?_
                  simp only [Act.put, List.setIfInBounds_toArray, List.set_cons_zero, List.set_cons_succ]
                  refine Segs.WP.not 10 rfl (some 51) rfl (by kernel_rfl) ?_
                  simp only [Act.put, List.setIfInBounds_toArray, List.set_cons_zero, List.set_cons_succ]
                  refine Segs.WP.not 11 rfl (some 52) rfl (by kernel_rfl) ?_
                  simp only [Act.put, List.setIfInBounds_toArray, List.set_cons_zero, List.set_cons_succ]
                  refine Segs.WP.not 12 rfl (some 53) rfl (by kernel_rfl) ?_
                  simp only [Act.put, List.setIfInBounds_toArray, List.set_cons_zero, List.set_cons_succ]
                  refine Segs.WP.not 13 rfl (some 54) rfl (by kernel_rfl) ?_
                  simp only [Act.put, List.setIfInBounds_toArray, List.set_cons_zero, List.set_cons_succ]
                  refine Segs.WP.not 14 rfl (some 55) rfl (by kernel_rfl) ?_
                  simp only [Act.put, List.setIfInBounds_toArray, List.set_cons_zero, List.set_cons_succ]
                  refine Segs.WP.not 15 rfl (some 56) rfl (by kernel_rfl) ?_
                  simp only [Act.put, List.setIfInBounds_toArray, List.set_cons_zero, List.set_cons_succ]
                  refine Segs.WP.not 16 rfl (some 57) rfl (by kernel_rfl) ?_
                  simp only [Act.put, List.setIfInBounds_toArray, List.set_cons_zero, List.set_cons_succ]
                  refine Segs.WP.val 17 rfl (some 58) (.bool false) rfl (by kernel_rfl) (fun WW h => by kernel_rfl) ?_
                  simp only [Act.put, List.setIfInBounds_toArray, List.set_cons_zero, List.set_cons_succ]
                  refine Segs.WP.val 18 rfl (some 59) (.bool false) rfl (by kernel_rfl) (fun WW h => by kernel_rfl) ?_
                  simp only [Act.put, List.setIfInBounds_toArray, List.set_cons_zero, List.set_cons_succ]
                  refine Segs.WP.val 19 rfl (some 60) (.bool false) rfl (by kernel_rfl) (fun WW h => by kernel_rfl) ?_
                  simp only [Act.put, List.setIfInBounds_toArray, List.set_cons_zero, List.set_cons_succ]
                  refine Segs.WP.val 20 rfl (some 61) (.pointer (some ⟨g5, 1, none⟩)) rfl (by kernel_rfl) (fun WW h => by kernel_rfl) ?_
                  simp only [Act.put, List.setIfInBounds_toArray, List.set_cons_zero, List.set_cons_succ]
                  refine Segs.WP.val 21 rfl (some 62) (.slice Ae V.e.length ce) rfl (by kernel_rfl) (fun WW h => Segs.run_cell 43 (.tmp 61) rfl g5 1 (by kernel_rfl) _ (isAggEnts _) ((ST.out WW (B2.out.call h).1).2.2.2.2.1)) ?_
                  simp only [Act.put, List.setIfInBounds_toArray, List.set_cons_zero, List.set_cons_succ]
                  refine Segs.WP.call 22 rfl (some 63) 36 #[.slice Ae V.e.length ce] (.int .i64 (checkN V.e)) rfl (by kernel_rfl) (fun W => by kernel_rfl) (fun WW h => (CK.out WW (B2.out.call h).1)) ?_
                  simp only [Act.put, List.setIfInBounds_toArray, List.set_cons_zero, List.set_cons_succ]
                  refine Segs.WP.val 23 rfl (some 64) (.bool false) rfl (by kernel_rfl) (fun WW h => run_nee rfl _ _ (by kernel_rfl) (by kernel_rfl) false K3.out) ?_
                  simp only [Act.put, List.setIfInBounds_toArray, List.set_cons_zero, List.set_cons_succ]
                  refine Segs.WP.val 24 rfl (some 65) (.bool false) rfl (by kernel_rfl) (fun WW h => by kernel_rfl) ?_
                  simp only [Act.put, List.setIfInBounds_toArray, List.set_cons_zero, List.set_cons_succ]
                  refine Segs.WP.val 25 rfl (some 66) (.bool false) rfl (by kernel_rfl) (fun WW h => by kernel_rfl) ?_
                  simp only [Act.put, List.setIfInBounds_toArray, List.set_cons_zero, List.set_cons_succ]
                  refine Segs.WP.val 26 rfl (some 67) (.pointer (some ⟨g5, 3, none⟩)) rfl (by kernel_rfl) (fun WW h => by kernel_rfl) ?_
                  simp only [Act.put, List.setIfInBounds_toArray, List.set_cons_zero, List.set_cons_succ]
                  refine Segs.WP.val 27 rfl (some 68) (.int .i64 (V.p)) rfl (by kernel_rfl) (fun WW h => Segs.run_cell 3 (.tmp 67) rfl g5 3 (by kernel_rfl) _ (isAggInt _) ((ST.out WW (B2.out.call h).1).2.2.2.2.2.2)) ?_
                  simp only [Act.put, List.setIfInBounds_toArray, List.set_cons_zero, List.set_cons_succ]
                  refine Segs.WP.val 28 rfl (some 69) (.bool false) rfl (by kernel_rfl) (fun WW h => run_lti rfl _ _ (by kernel_rfl) (by kernel_rfl) false K4.out) ?_
                  simp only [Act.put, List.setIfInBounds_toArray, List.set_cons_zero, List.set_cons_succ]
                  refine Segs.WP.val 29 rfl (some 70) (.bool false) rfl (by kernel_rfl) (fun WW h => by kernel_rfl) ?_
                  simp only [Act.put, List.setIfInBounds_toArray, List.set_cons_zero, List.set_cons_succ]
                  refine Segs.WP.val 30 rfl (some 71) (.bool false) rfl (by kernel_rfl) (fun WW h => by kernel_rfl) ?_
                  simp only [Act.put, List.setIfInBounds_toArray, List.set_cons_zero, List.set_cons_succ]
                  refine Segs.WP.val 31 rfl (some 72) (.pointer (some ⟨g5, 3, none⟩)) rfl (by kernel_rfl) (fun WW h => by kernel_rfl) ?_
                  simp only [Act.put, List.setIfInBounds_toArray, List.set_cons_zero, List.set_cons_succ]
                  refine Segs.WP.val 32 rfl (some 73) (.int .i64 (V.p)) rfl (by kernel_rfl) (fun WW h => Segs.run_cell 3 (.tmp 72) rfl g5 3 (by kernel_rfl) _ (isAggInt _) ((ST.out WW (B2.out.call h).1).2.2.2.2.2.2)) ?_
                  simp only [Act.put, List.setIfInBounds_toArray, List.set_cons_zero, List.set_cons_succ]
                  refine Segs.WP.val 33 rfl (some 74) (.bool true) rfl (by kernel_rfl) (fun WW h => run_gti rfl _ _ (by kernel_rfl) (by kernel_rfl) true K5.out) ?_
                  simp only [Act.put, List.setIfInBounds_toArray, List.set_cons_zero, List.set_cons_succ]
                  refine Segs.WP.val 34 rfl (some 75) (.bool true) rfl (by kernel_rfl) (fun WW h => by kernel_rfl) ?_
                  simp only [Act.put, List.setIfInBounds_toArray, List.set_cons_zero, List.set_cons_succ]
                  refine Segs.WP.val 35 rfl (some 76) (.bool true) rfl (by kernel_rfl) (fun WW h => by kernel_rfl) ?_
                  simp only [Act.put, List.setIfInBounds_toArray, List.set_cons_zero, List.set_cons_succ]
                  refine Segs.WP.not 36 rfl (some 77) rfl (by kernel_rfl) ?_
                  simp only [Act.put, List.setIfInBounds_toArray, List.set_cons_zero, List.set_cons_succ]
                  refine Segs.WP.not 37 rfl (some 78) rfl (by kernel_rfl) ?_
                  simp only [Act.put, List.setIfInBounds_toArray, List.set_cons_zero, List.set_cons_succ]
                  refine Segs.WP.not 38 rfl (some 79) rfl (by kernel_rfl) ?_
                  simp only [Act.put, List.setIfInBounds_toArray, List.set_cons_zero, List.set_cons_succ]
                  refine Segs.WP.not 39 rfl (some 80) rfl (by kernel_rfl) ?_
                  simp only [Act.put, List.setIfInBounds_toArray, List.set_cons_zero, List.set_cons_succ]
                  refine Segs.WP.val 40 rfl (some 81) (.bool true) rfl (by kernel_rfl) (fun WW h => by kernel_rfl) ?_
                  simp only [Act.put, List.setIfInBounds_toArray, List.set_cons_zero, List.set_cons_succ]
                  refine Segs.WP.fin (fun W3 hx => ?_)
                  have B4 := Lib.hid (B2.out.call hx)
                  clear hx
                  go_wp2_with fail
                  go_ret
                  exact ⟨retB BD.out.symm, bel_trans' BB.out (BW5.out.call B4.out.1).1⟩
                · have K5 : Hid (decide (V.p > 1048576) = false) := Lib.hid (decide_eq_false (t5))
                  rcases t6 : keptR M V with _ | _
                  · have BD : Hid (validM M = false) := Lib.hid (BADH.out (fun h => by have := h.2.2.2.2.2; rw [t6] at this; cases this))
                    rw [t6] at KP
                    clear t3 t6
                    have HB0 := Lib.hid (Bl.start w5)
                    refine Segs.wp_region_perm Segs.Hist [(0, false), (1, false), (2, false), (3, false), (4, false), (5, false), (6, false), (7, false), (8, false), (9, false), (10, false), (11, false), (12, false), (13, false), (14, false), (15, false), (16, false), (17, false), (18, false), (19, false), (20, false), (21, false), (22, false), (23, false), (24, false), (25, false), (26, false), (27, false), (28, false), (29, false), (30, false), (31, false), (32, false), (33, false), (34, false), (35, false), (36, false), (37, false), (38, false), (39, false), (40, false)] Segs.Hist.refl Segs.Hist.trans (by kernel_rfl) (by kernel_rfl) rfl (by kernel_rfl) (Segs.WP.out ?_)
                    have B2 := Lib.hid HB0.out.drew
                    generalize w5.drew = W1 at B2 ⊢
                    refine Segs.WP.val 0 rfl (some 41) (.pointer (some ⟨g5, 0, none⟩)) rfl (by kernel_rfl) (fun WW h => by kernel_rfl) ?_
                    simp only [Act.put, List.setIfInBounds_toArray, List.set_cons_zero, List.set_cons_succ]
                    refine Segs.WP.val 1 rfl (some 42) (.int .i64 (V.b)) rfl (by kernel_rfl) (fun WW h => Segs.run_cell 3 (.tmp 41) rfl g5 0 (by kernel_rfl) _ (isAggInt _) ((ST.out WW (B2.out.call h).1).2.2.2.1)) ?_
                    simp only [Act.put, List.setIfInBounds_toArray, List.set_cons_zero, List.set_cons_succ]
                    refine Segs.WP.val 2 rfl (some 43) (.bool false) rfl (by kernel_rfl) (fun WW h => run_lti rfl _ _ (by kernel_rfl) (by kernel_rfl) false K1.out) ?_
                    simp only [Act.put, List.setIfInBounds_toArray, List.set_cons_zero, List.set_cons_succ]
                    refine Segs.WP.val 3 rfl (some 44) (.bool false) rfl (by kernel_rfl) (fun WW h => by kernel_rfl) ?_
                    simp only [Act.put, List.setIfInBounds_toArray, List.set_cons_zero, List.set_cons_succ]
                    refine Segs.WP.val 4 rfl (some 45) (.int .i64 ((k : Int))) rfl (by kernel_rfl) (fun WW h => by kernel_rfl) ?_
                    simp only [Act.put, List.setIfInBounds_toArray, List.set_cons_zero, List.set_cons_succ]
                    refine Segs.WP.val 5 rfl (some 46) (.bool false) rfl (by kernel_rfl) (fun WW h => run_gti rfl _ _ (by kernel_rfl) (by kernel_rfl) false K0.out) ?_
                    simp only [Act.put, List.setIfInBounds_toArray, List.set_cons_zero, List.set_cons_succ]
                    refine Segs.WP.val 6 rfl (some 47) (.bool false) rfl (by kernel_rfl) (fun WW h => by kernel_rfl) ?_
                    simp only [Act.put, List.setIfInBounds_toArray, List.set_cons_zero, List.set_cons_succ]
                    refine Segs.WP.not 7 rfl (some 48) rfl (by kernel_rfl) ?_
                    simp only [Act.put, List.setIfInBounds_toArray, List.set_cons_zero, List.set_cons_succ]
                    refine Segs.WP.not 8 rfl (some 49) rfl (by kernel_rfl) ?_
                    simp only [Act.put, List.setIfInBounds_toArray, List.set_cons_zero, List.set_cons_succ]
                    refine Segs.WP.not 9 rfl (some 50) rfl (by kernel_rfl) ?_
                    simp only [Act.put, List.setIfInBounds_toArray, List.set_cons_zero, List.set_cons_succ]
                    refine Segs.WP.not 10 rfl (some 51) rfl (by kernel_rfl) ?_
                    simp only [Act.put, List.setIfInBounds_toArray, List.set_cons_zero, List.set_cons_succ]
                    refine Segs.WP.not 11 rfl (some 52) rfl (by kernel_rfl) ?_
                    simp only [Act.put, List.setIfInBounds_toArray, List.set_cons_zero, List.set_cons_succ]
                    refine Segs.WP.not 12 rfl (some 53) rfl (by kernel_rfl) ?_
                    simp only [Act.put, List.setIfInBounds_toArray, List.set_cons_zero, List.set_cons_succ]
                    refine Segs.WP.not 13 rfl (some 54) rfl (by kernel_rfl) ?_
                    simp only [Act.put, List.setIfInBounds_toArray, List.set_cons_zero, List.set_cons_succ]
                    refine Segs.WP.not 14 rfl (some 55) rfl (by kernel_rfl) ?_
                    simp only [Act.put, List.setIfInBounds_toArray, List.set_cons_zero, List.set_cons_succ]
                    refine Segs.WP.not 15 rfl (some 56) rfl (by kernel_rfl) ?_
                    simp only [Act.put, List.setIfInBounds_toArray, List.set_cons_zero, List.set_cons_succ]
                    refine Segs.WP.not 16 rfl (some 57) rfl (by kernel_rfl) ?_
                    simp only [Act.put, List.setIfInBounds_toArray, List.set_cons_zero, List.set_cons_succ]
                    refine Segs.WP.val 17 rfl (some 58) (.bool false) rfl (by kernel_rfl) (fun WW h => by kernel_rfl) ?_
                    simp only [Act.put, List.setIfInBounds_toArray, List.set_cons_zero, List.set_cons_succ]
                    refine Segs.WP.val 18 rfl (some 59) (.bool false) rfl (by kernel_rfl) (fun WW h => by kernel_rfl) ?_
                    simp only [Act.put, List.setIfInBounds_toArray, List.set_cons_zero, List.set_cons_succ]
                    refine Segs.WP.val 19 rfl (some 60) (.bool false) rfl (by kernel_rfl) (fun WW h => by kernel_rfl) ?_
                    simp only [Act.put, List.setIfInBounds_toArray, List.set_cons_zero, List.set_cons_succ]
                    refine Segs.WP.val 20 rfl (some 61) (.pointer (some ⟨g5, 1, none⟩)) rfl (by kernel_rfl) (fun WW h => by kernel_rfl) ?_
                    simp only [Act.put, List.setIfInBounds_toArray, List.set_cons_zero, List.set_cons_succ]
                    refine Segs.WP.val 21 rfl (some 62) (.slice Ae V.e.length ce) rfl (by kernel_rfl) (fun WW h => Segs.run_cell 43 (.tmp 61) rfl g5 1 (by kernel_rfl) _ (isAggEnts _) ((ST.out WW (B2.out.call h).1).2.2.2.2.1)) ?_
                    simp only [Act.put, List.setIfInBounds_toArray, List.set_cons_zero, List.set_cons_succ]
                    refine Segs.WP.call 22 rfl (some 63) 36 #[.slice Ae V.e.length ce] (.int .i64 (checkN V.e)) rfl (by kernel_rfl) (fun W => by kernel_rfl) (fun WW h => (CK.out WW (B2.out.call h).1)) ?_
                    simp only [Act.put, List.setIfInBounds_toArray, List.set_cons_zero, List.set_cons_succ]
                    refine Segs.WP.val 23 rfl (some 64) (.bool false) rfl (by kernel_rfl) (fun WW h => run_nee rfl _ _ (by kernel_rfl) (by kernel_rfl) false K3.out) ?_
                    simp only [Act.put, List.setIfInBounds_toArray, List.set_cons_zero, List.set_cons_succ]
                    refine Segs.WP.val 24 rfl (some 65) (.bool false) rfl (by kernel_rfl) (fun WW h => by kernel_rfl) ?_
                    simp only [Act.put, List.setIfInBounds_toArray, List.set_cons_zero, List.set_cons_succ]
                    refine Segs.WP.val 25 rfl (some 66) (.bool false) rfl (by kernel_rfl) (fun WW h => by kernel_rfl) ?_
                    simp only [Act.put, List.setIfInBounds_toArray, List.set_cons_zero, List.set_cons_succ]
                    refine Segs.WP.val 26 rfl (some 67) (.pointer (some ⟨g5, 3, none⟩)) rfl (by kernel_rfl) (fun WW h => by kernel_rfl) ?_
                    simp only [Act.put, List.setIfInBounds_toArray, List.set_cons_zero, List.set_cons_succ]
                    refine Segs.WP.val 27 rfl (some 68) (.int .i64 (V.p)) rfl (by kernel_rfl) (fun WW h => Segs.run_cell 3 (.tmp 67) rfl g5 3 (by kernel_rfl) _ (isAggInt _) ((ST.out WW (B2.out.call h).1).2.2.2.2.2.2)) ?_
                    simp only [Act.put, List.setIfInBounds_toArray, List.set_cons_zero, List.set_cons_succ]
                    refine Segs.WP.val 28 rfl (some 69) (.bool false) rfl (by kernel_rfl) (fun WW h => run_lti rfl _ _ (by kernel_rfl) (by kernel_rfl) false K4.out) ?_
                    simp only [Act.put, List.setIfInBounds_toArray, List.set_cons_zero, List.set_cons_succ]
                    refine Segs.WP.val 29 rfl (some 70) (.bool false) rfl (by kernel_rfl) (fun WW h => by kernel_rfl) ?_
                    simp only [Act.put, List.setIfInBounds_toArray, List.set_cons_zero, List.set_cons_succ]
                    refine Segs.WP.val 30 rfl (some 71) (.bool false) rfl (by kernel_rfl) (fun WW h => by kernel_rfl) ?_
                    simp only [Act.put, List.setIfInBounds_toArray, List.set_cons_zero, List.set_cons_succ]
                    refine Segs.WP.val 31 rfl (some 72) (.pointer (some ⟨g5, 3, none⟩)) rfl (by kernel_rfl) (fun WW h => by kernel_rfl) ?_
                    simp only [Act.put, List.setIfInBounds_toArray, List.set_cons_zero, List.set_cons_succ]
                    refine Segs.WP.val 32 rfl (some 73) (.int .i64 (V.p)) rfl (by kernel_rfl) (fun WW h => Segs.run_cell 3 (.tmp 72) rfl g5 3 (by kernel_rfl) _ (isAggInt _) ((ST.out WW (B2.out.call h).1).2.2.2.2.2.2)) ?_
                    simp only [Act.put, List.setIfInBounds_toArray, List.set_cons_zero, List.set_cons_succ]
                    refine Segs.WP.val 33 rfl (some 74) (.bool false) rfl (by kernel_rfl) (fun WW h => run_gti rfl _ _ (by kernel_rfl) (by kernel_rfl) false K5.out) ?_
                    simp only [Act.put, List.setIfInBounds_toArray, List.set_cons_zero, List.set_cons_succ]
                    refine Segs.WP.val 34 rfl (some 75) (.bool false) rfl (by kernel_rfl) (fun WW h => by kernel_rfl) ?_
                    simp only [Act.put, List.setIfInBounds_toArray, List.set_cons_zero, List.set_cons_succ]
                    refine Segs.WP.val 35 rfl (some 76) (.bool false) rfl (by kernel_rfl) (fun WW h => by kernel_rfl) ?_
                    simp only [Act.put, List.setIfInBounds_toArray, List.set_cons_zero, List.set_cons_succ]
                    refine Segs.WP.val 36 rfl (some 77) (.agg #[.int .i64 M.w, .int .i64 M.n, .slice (some ⟨b, o, none⟩) z c]) rfl (by kernel_rfl) (fun WW h => run_ldRM (.tmp 1) rfl g 0 (by kernel_rfl) _ _ _ (cells3 (ST.out WW (B2.out.call h).1).1 (ST.out WW (B2.out.call h).1).2.1 (ST.out WW (B2.out.call h).1).2.2.1)) ?_
                    simp only [Act.put, List.setIfInBounds_toArray, List.set_cons_zero, List.set_cons_succ]
                    refine Segs.WP.val 37 rfl (some 78) (.agg #[.int .i64 V.b, .slice Ae V.e.length ce, .slice Ac V.c.length cc, .int .i64 V.p]) rfl (by kernel_rfl) (fun WW h => run_ldRV (.tmp 4) rfl g5 0 (by kernel_rfl) _ _ _ _ (cells4 (ST.out WW (B2.out.call h).1).2.2.2.1 (ST.out WW (B2.out.call h).1).2.2.2.2.1 (ST.out WW (B2.out.call h).1).2.2.2.2.2.1 (ST.out WW (B2.out.call h).1).2.2.2.2.2.2)) ?_
                    simp only [Act.put, List.setIfInBounds_toArray, List.set_cons_zero, List.set_cons_succ]
                    refine Segs.WP.call 38 rfl (some 79) 37 #[.agg #[.int .i64 M.w, .int .i64 M.n, .slice (some ⟨b, o, none⟩) z c], .agg #[.int .i64 V.b, .slice Ae V.e.length ce, .slice Ac V.c.length cc, .int .i64 V.p]] (.bool false) rfl (by kernel_rfl) (fun W => by kernel_rfl) (fun WW h => (KP.out WW)) ?_
                    simp only [Act.put, List.setIfInBounds_toArray, List.set_cons_zero, List.set_cons_succ]
                    refine Segs.WP.val 39 rfl (some 80) (.bool true) rfl (by kernel_rfl) (fun WW h => by kernel_rfl) ?_
                    simp only [Act.put, List.setIfInBounds_toArray, List.set_cons_zero, List.set_cons_succ]
                    refine Segs.WP.val 40 rfl (some 81) (.bool true) rfl (by kernel_rfl) (fun WW h => by kernel_rfl) ?_
                    simp only [Act.put, List.setIfInBounds_toArray, List.set_cons_zero, List.set_cons_succ]
                    refine Segs.WP.fin (fun W3 hx => ?_)
                    have B4 := Lib.hid (B2.out.call hx)
                    clear hx
                    go_wp2_with fail
                    go_ret
                    exact ⟨retB BD.out.symm, bel_trans' BB.out (BW5.out.call B4.out.1).1⟩
                  · have GD := Lib.hid (GOODH.out ⟨by omega, fun i X e hX => by omega, t3, by omega, by omega, t6⟩)
                    rw [t6] at KP
                    clear t3 t6
                    have HB0 := Lib.hid (Bl.start w5)
                    refine Segs.wp_region_perm Segs.Hist [(0, false), (1, false), (2, false), (3, false), (4, false), (5, false), (6, false), (7, false), (8, false), (9, false), (10, false), (11, false), (12, false), (13, false), (14, false), (15, false), (16, false), (17, false), (18, false), (19, false), (20, false), (21, false), (22, false), (23, false), (24, false), (25, false), (26, false), (27, false), (28, false), (29, false), (30, false), (31, false), (32, false), (33, false), (34, false), (35, false), (36, false), (37, false), (38, false), (39, false), (40, false)] Segs.Hist.refl Segs.Hist.trans (by kernel_rfl) (by kernel_rfl) rfl (by kernel_rfl) (Segs.WP.out ?_)
                    have B2 := Lib.hid HB0.out.drew
                    generalize w5.drew = W1 at B2 ⊢
                    refine Segs.WP.val 0 rfl (some 41) (.pointer (some ⟨g5, 0, none⟩)) rfl (by kernel_rfl) (fun WW h => by kernel_rfl) ?_
                    simp only [Act.put, List.setIfInBounds_toArray, List.set_cons_zero, List.set_cons_succ]
                    refine Segs.WP.val 1 rfl (some 42) (.int .i64 (V.b)) rfl (by kernel_rfl) (fun WW h => Segs.run_cell 3 (.tmp 41) rfl g5 0 (by kernel_rfl) _ (isAggInt _) ((ST.out WW (B2.out.call h).1).2.2.2.1)) ?_
                    simp only [Act.put, List.setIfInBounds_toArray, List.set_cons_zero, List.set_cons_succ]
                    refine Segs.WP.val 2 rfl (some 43) (.bool false) rfl (by kernel_rfl) (fun WW h => run_lti rfl _ _ (by kernel_rfl) (by kernel_rfl) false K1.out) ?_
                    simp only [Act.put, List.setIfInBounds_toArray, List.set_cons_zero, List.set_cons_succ]
                    refine Segs.WP.val 3 rfl (some 44) (.bool false) rfl (by kernel_rfl) (fun WW h => by kernel_rfl) ?_
                    simp only [Act.put, List.setIfInBounds_toArray, List.set_cons_zero, List.set_cons_succ]
                    refine Segs.WP.val 4 rfl (some 45) (.int .i64 ((k : Int))) rfl (by kernel_rfl) (fun WW h => by kernel_rfl) ?_
                    simp only [Act.put, List.setIfInBounds_toArray, List.set_cons_zero, List.set_cons_succ]
                    refine Segs.WP.val 5 rfl (some 46) (.bool false) rfl (by kernel_rfl) (fun WW h => run_gti rfl _ _ (by kernel_rfl) (by kernel_rfl) false K0.out) ?_
                    simp only [Act.put, List.setIfInBounds_toArray, List.set_cons_zero, List.set_cons_succ]
                    refine Segs.WP.val 6 rfl (some 47) (.bool false) rfl (by kernel_rfl) (fun WW h => by kernel_rfl) ?_
                    simp only [Act.put, List.setIfInBounds_toArray, List.set_cons_zero, List.set_cons_succ]
                    refine Segs.WP.not 7 rfl (some 48) rfl (by kernel_rfl) ?_
                    simp only [Act.put, List.setIfInBounds_toArray, List.set_cons_zero, List.set_cons_succ]
                    refine Segs.WP.not 8 rfl (some 49) rfl (by kernel_rfl) ?_
                    simp only [Act.put, List.setIfInBounds_toArray, List.set_cons_zero, List.set_cons_succ]
                    refine Segs.WP.not 9 rfl (some 50) rfl (by kernel_rfl) ?_
                    simp only [Act.put, List.setIfInBounds_toArray, List.set_cons_zero, List.set_cons_succ]
                    refine Segs.WP.not 10 rfl (some 51) rfl (by kernel_rfl) ?_
                    simp only [Act.put, List.setIfInBounds_toArray, List.set_cons_zero, List.set_cons_succ]
                    refine Segs.WP.not 11 rfl (some 52) rfl (by kernel_rfl) ?_
                    simp only [Act.put, List.setIfInBounds_toArray, List.set_cons_zero, List.set_cons_succ]
                    refine Segs.WP.not 12 rfl (some 53) rfl (by kernel_rfl) ?_
                    simp only [Act.put, List.setIfInBounds_toArray, List.set_cons_zero, List.set_cons_succ]
                    refine Segs.WP.not 13 rfl (some 54) rfl (by kernel_rfl) ?_
                    simp only [Act.put, List.setIfInBounds_toArray, List.set_cons_zero, List.set_cons_succ]
                    refine Segs.WP.not 14 rfl (some 55) rfl (by kernel_rfl) ?_
                    simp only [Act.put, List.setIfInBounds_toArray, List.set_cons_zero, List.set_cons_succ]
                    refine Segs.WP.not 15 rfl (some 56) rfl (by kernel_rfl) ?_
                    simp only [Act.put, List.setIfInBounds_toArray, List.set_cons_zero, List.set_cons_succ]
                    refine Segs.WP.not 16 rfl (some 57) rfl (by kernel_rfl) ?_
                    simp only [Act.put, List.setIfInBounds_toArray, List.set_cons_zero, List.set_cons_succ]
                    refine Segs.WP.val 17 rfl (some 58) (.bool false) rfl (by kernel_rfl) (fun WW h => by kernel_rfl) ?_
                    simp only [Act.put, List.setIfInBounds_toArray, List.set_cons_zero, List.set_cons_succ]
                    refine Segs.WP.val 18 rfl (some 59) (.bool false) rfl (by kernel_rfl) (fun WW h => by kernel_rfl) ?_
                    simp only [Act.put, List.setIfInBounds_toArray, List.set_cons_zero, List.set_cons_succ]
                    refine Segs.WP.val 19 rfl (some 60) (.bool false) rfl (by kernel_rfl) (fun WW h => by kernel_rfl) ?_
                    simp only [Act.put, List.setIfInBounds_toArray, List.set_cons_zero, List.set_cons_succ]
                    refine Segs.WP.val 20 rfl (some 61) (.pointer (some ⟨g5, 1, none⟩)) rfl (by kernel_rfl) (fun WW h => by kernel_rfl) ?_
                    simp only [Act.put, List.setIfInBounds_toArray, List.set_cons_zero, List.set_cons_succ]
                    refine Segs.WP.val 21 rfl (some 62) (.slice Ae V.e.length ce) rfl (by kernel_rfl) (fun WW h => Segs.run_cell 43 (.tmp 61) rfl g5 1 (by kernel_rfl) _ (isAggEnts _) ((ST.out WW (B2.out.call h).1).2.2.2.2.1)) ?_
                    simp only [Act.put, List.setIfInBounds_toArray, List.set_cons_zero, List.set_cons_succ]
                    refine Segs.WP.call 22 rfl (some 63) 36 #[.slice Ae V.e.length ce] (.int .i64 (checkN V.e)) rfl (by kernel_rfl) (fun W => by kernel_rfl) (fun WW h => (CK.out WW (B2.out.call h).1)) ?_
                    simp only [Act.put, List.setIfInBounds_toArray, List.set_cons_zero, List.set_cons_succ]
                    refine Segs.WP.val 23 rfl (some 64) (.bool false) rfl (by kernel_rfl) (fun WW h => run_nee rfl _ _ (by kernel_rfl) (by kernel_rfl) false K3.out) ?_
                    simp only [Act.put, List.setIfInBounds_toArray, List.set_cons_zero, List.set_cons_succ]
                    refine Segs.WP.val 24 rfl (some 65) (.bool false) rfl (by kernel_rfl) (fun WW h => by kernel_rfl) ?_
                    simp only [Act.put, List.setIfInBounds_toArray, List.set_cons_zero, List.set_cons_succ]
                    refine Segs.WP.val 25 rfl (some 66) (.bool false) rfl (by kernel_rfl) (fun WW h => by kernel_rfl) ?_
                    simp only [Act.put, List.setIfInBounds_toArray, List.set_cons_zero, List.set_cons_succ]
                    refine Segs.WP.val 26 rfl (some 67) (.pointer (some ⟨g5, 3, none⟩)) rfl (by kernel_rfl) (fun WW h => by kernel_rfl) ?_
                    simp only [Act.put, List.setIfInBounds_toArray, List.set_cons_zero, List.set_cons_succ]
                    refine Segs.WP.val 27 rfl (some 68) (.int .i64 (V.p)) rfl (by kernel_rfl) (fun WW h => Segs.run_cell 3 (.tmp 67) rfl g5 3 (by kernel_rfl) _ (isAggInt _) ((ST.out WW (B2.out.call h).1).2.2.2.2.2.2)) ?_
                    simp only [Act.put, List.setIfInBounds_toArray, List.set_cons_zero, List.set_cons_succ]
                    refine Segs.WP.val 28 rfl (some 69) (.bool false) rfl (by kernel_rfl) (fun WW h => run_lti rfl _ _ (by kernel_rfl) (by kernel_rfl) false K4.out) ?_
                    simp only [Act.put, List.setIfInBounds_toArray, List.set_cons_zero, List.set_cons_succ]
                    refine Segs.WP.val 29 rfl (some 70) (.bool false) rfl (by kernel_rfl) (fun WW h => by kernel_rfl) ?_
                    simp only [Act.put, List.setIfInBounds_toArray, List.set_cons_zero, List.set_cons_succ]
                    refine Segs.WP.val 30 rfl (some 71) (.bool false) rfl (by kernel_rfl) (fun WW h => by kernel_rfl) ?_
                    simp only [Act.put, List.setIfInBounds_toArray, List.set_cons_zero, List.set_cons_succ]
                    refine Segs.WP.val 31 rfl (some 72) (.pointer (some ⟨g5, 3, none⟩)) rfl (by kernel_rfl) (fun WW h => by kernel_rfl) ?_
                    simp only [Act.put, List.setIfInBounds_toArray, List.set_cons_zero, List.set_cons_succ]
                    refine Segs.WP.val 32 rfl (some 73) (.int .i64 (V.p)) rfl (by kernel_rfl) (fun WW h => Segs.run_cell 3 (.tmp 72) rfl g5 3 (by kernel_rfl) _ (isAggInt _) ((ST.out WW (B2.out.call h).1).2.2.2.2.2.2)) ?_
                    simp only [Act.put, List.setIfInBounds_toArray, List.set_cons_zero, List.set_cons_succ]
                    refine Segs.WP.val 33 rfl (some 74) (.bool false) rfl (by kernel_rfl) (fun WW h => run_gti rfl _ _ (by kernel_rfl) (by kernel_rfl) false K5.out) ?_
                    simp only [Act.put, List.setIfInBounds_toArray, List.set_cons_zero, List.set_cons_succ]
                    refine Segs.WP.val 34 rfl (some 75) (.bool false) rfl (by kernel_rfl) (fun WW h => by kernel_rfl) ?_
                    simp only [Act.put, List.setIfInBounds_toArray, List.set_cons_zero, List.set_cons_succ]
                    refine Segs.WP.val 35 rfl (some 76) (.bool false) rfl (by kernel_rfl) (fun WW h => by kernel_rfl) ?_
                    simp only [Act.put, List.setIfInBounds_toArray, List.set_cons_zero, List.set_cons_succ]
                    refine Segs.WP.val 36 rfl (some 77) (.agg #[.int .i64 M.w, .int .i64 M.n, .slice (some ⟨b, o, none⟩) z c]) rfl (by kernel_rfl) (fun WW h => run_ldRM (.tmp 1) rfl g 0 (by kernel_rfl) _ _ _ (cells3 (ST.out WW (B2.out.call h).1).1 (ST.out WW (B2.out.call h).1).2.1 (ST.out WW (B2.out.call h).1).2.2.1)) ?_
                    simp only [Act.put, List.setIfInBounds_toArray, List.set_cons_zero, List.set_cons_succ]
                    refine Segs.WP.val 37 rfl (some 78) (.agg #[.int .i64 V.b, .slice Ae V.e.length ce, .slice Ac V.c.length cc, .int .i64 V.p]) rfl (by kernel_rfl) (fun WW h => run_ldRV (.tmp 4) rfl g5 0 (by kernel_rfl) _ _ _ _ (cells4 (ST.out WW (B2.out.call h).1).2.2.2.1 (ST.out WW (B2.out.call h).1).2.2.2.2.1 (ST.out WW (B2.out.call h).1).2.2.2.2.2.1 (ST.out WW (B2.out.call h).1).2.2.2.2.2.2)) ?_
                    simp only [Act.put, List.setIfInBounds_toArray, List.set_cons_zero, List.set_cons_succ]
                    refine Segs.WP.call 38 rfl (some 79) 37 #[.agg #[.int .i64 M.w, .int .i64 M.n, .slice (some ⟨b, o, none⟩) z c], .agg #[.int .i64 V.b, .slice Ae V.e.length ce, .slice Ac V.c.length cc, .int .i64 V.p]] (.bool true) rfl (by kernel_rfl) (fun W => by kernel_rfl) (fun WW h => (KP.out WW)) ?_
                    simp only [Act.put, List.setIfInBounds_toArray, List.set_cons_zero, List.set_cons_succ]
                    refine Segs.WP.val 39 rfl (some 80) (.bool false) rfl (by kernel_rfl) (fun WW h => by kernel_rfl) ?_
                    simp only [Act.put, List.setIfInBounds_toArray, List.set_cons_zero, List.set_cons_succ]
                    refine Segs.WP.val 40 rfl (some 81) (.bool false) rfl (by kernel_rfl) (fun WW h => by kernel_rfl) ?_
                    simp only [Act.put, List.setIfInBounds_toArray, List.set_cons_zero, List.set_cons_succ]
                    refine Segs.WP.fin (fun W3 hx => ?_)
                    have B4 := Lib.hid (B2.out.call hx)
                    clear hx
                    obtain ⟨wz, hwz⟩ : ∃ z, z = W3 := ⟨_, rfl⟩
                    have BZ := Lib.hid (BW5.out.call B4.out.1)
                    rw [← hwz] at BZ ⊢
                    clear hwz
                    go_wp2_with fail
                    exact ⟨⟨k + 1, by go_num, by omega, GD, BZ⟩, by simp [intOf]; omega⟩
            · have K3 : Hid (decide (¬ checkN V.e = 0) = true) := Lib.hid (decide_eq_true t3)
              have BD : Hid (validM M = false) := Lib.hid (BADH.out (fun h => t3 h.2.2.1))
              clear t3
              have HB0 := Lib.hid (Bl.start w5)
              refine Segs.wp_region_perm Segs.Hist [(0, false), (1, false), (2, false), (3, false), (4, false), (5, false), (6, false), (7, false), (8, false), (9, false), (10, false), (11, false), (12, false), (13, false), (14, false), (15, false), (16, false), (17, false), (18, false), (19, false), (20, false), (21, false), (22, false), (23, false), (24, false), (25, false), (26, false), (27, false), (28, false), (29, false), (30, false), (31, false), (32, false), (33, false), (34, false), (35, false), (36, false), (37, false), (38, false), (39, false), (40, false)] Segs.Hist.refl Segs.Hist.trans (by kernel_rfl) (by kernel_rfl) rfl (by kernel_rfl) (Segs.WP.out ?_)
              have B2 := Lib.hid HB0.out.drew
              generalize w5.drew = W1 at B2 ⊢
              refine Segs.WP.val 0 rfl (some 41) (.pointer (some ⟨g5, 0, none⟩)) rfl (by kernel_rfl) (fun WW h => by kernel_rfl) ?_
              simp only [Act.put, List.setIfInBounds_toArray, List.set_cons_zero, List.set_cons_succ]
              refine Segs.WP.val 1 rfl (some 42) (.int .i64 (V.b)) rfl (by kernel_rfl) (fun WW h => Segs.run_cell 3 (.tmp 41) rfl g5 0 (by kernel_rfl) _ (isAggInt _) ((ST.out WW (B2.out.call h).1).2.2.2.1)) ?_
              simp only [Act.put, List.setIfInBounds_toArray, List.set_cons_zero, List.set_cons_succ]
              refine Segs.WP.val 2 rfl (some 43) (.bool false) rfl (by kernel_rfl) (fun WW h => run_lti rfl _ _ (by kernel_rfl) (by kernel_rfl) false K1.out) ?_
              simp only [Act.put, List.setIfInBounds_toArray, List.set_cons_zero, List.set_cons_succ]
              refine Segs.WP.val 3 rfl (some 44) (.bool false) rfl (by kernel_rfl) (fun WW h => by kernel_rfl) ?_
              simp only [Act.put, List.setIfInBounds_toArray, List.set_cons_zero, List.set_cons_succ]
              refine Segs.WP.val 4 rfl (some 45) (.int .i64 ((k : Int))) rfl (by kernel_rfl) (fun WW h => by kernel_rfl) ?_
              simp only [Act.put, List.setIfInBounds_toArray, List.set_cons_zero, List.set_cons_succ]
              refine Segs.WP.val 5 rfl (some 46) (.bool false) rfl (by kernel_rfl) (fun WW h => run_gti rfl _ _ (by kernel_rfl) (by kernel_rfl) false K0.out) ?_
              simp only [Act.put, List.setIfInBounds_toArray, List.set_cons_zero, List.set_cons_succ]
              refine Segs.WP.val 6 rfl (some 47) (.bool false) rfl (by kernel_rfl) (fun WW h => by kernel_rfl) ?_
              simp only [Act.put, List.setIfInBounds_toArray, List.set_cons_zero, List.set_cons_succ]
              refine Segs.WP.not 7 rfl (some 48) rfl (by kernel_rfl) ?_
              simp only [Act.put, List.setIfInBounds_toArray, List.set_cons_zero, List.set_cons_succ]
              refine Segs.WP.not 8 rfl (some 49) rfl (by kernel_rfl) ?_
              simp only [Act.put, List.setIfInBounds_toArray, List.set_cons_zero, List.set_cons_succ]
              refine Segs.WP.not 9 rfl (some 50) rfl (by kernel_rfl) ?_
              simp only [Act.put, List.setIfInBounds_toArray, List.set_cons_zero, List.set_cons_succ]
              refine Segs.WP.not 10 rfl (some 51) rfl (by kernel_rfl) ?_
              simp only [Act.put, List.setIfInBounds_toArray, List.set_cons_zero, List.set_cons_succ]
              refine Segs.WP.not 11 rfl (some 52) rfl (by kernel_rfl) ?_
              simp only [Act.put, List.setIfInBounds_toArray, List.set_cons_zero, List.set_cons_succ]
              refine Segs.WP.not 12 rfl (some 53) rfl (by kernel_rfl) ?_
              simp only [Act.put, List.setIfInBounds_toArray, List.set_cons_zero, List.set_cons_succ]
              refine Segs.WP.not 13 rfl (some 54) rfl (by kernel_rfl) ?_
              simp only [Act.put, List.setIfInBounds_toArray, List.set_cons_zero, List.set_cons_succ]
              refine Segs.WP.not 14 rfl (some 55) rfl (by kernel_rfl) ?_
              simp only [Act.put, List.setIfInBounds_toArray, List.set_cons_zero, List.set_cons_succ]
              refine Segs.WP.not 15 rfl (some 56) rfl (by kernel_rfl) ?_
              simp only [Act.put, List.setIfInBounds_toArray, List.set_cons_zero, List.set_cons_succ]
              refine Segs.WP.not 16 rfl (some 57) rfl (by kernel_rfl) ?_
              simp only [Act.put, List.setIfInBounds_toArray, List.set_cons_zero, List.set_cons_succ]
              refine Segs.WP.val 17 rfl (some 58) (.bool false) rfl (by kernel_rfl) (fun WW h => by kernel_rfl) ?_
              simp only [Act.put, List.setIfInBounds_toArray, List.set_cons_zero, List.set_cons_succ]
              refine Segs.WP.val 18 rfl (some 59) (.bool false) rfl (by kernel_rfl) (fun WW h => by kernel_rfl) ?_
              simp only [Act.put, List.setIfInBounds_toArray, List.set_cons_zero, List.set_cons_succ]
              refine Segs.WP.val 19 rfl (some 60) (.bool false) rfl (by kernel_rfl) (fun WW h => by kernel_rfl) ?_
              simp only [Act.put, List.setIfInBounds_toArray, List.set_cons_zero, List.set_cons_succ]
              refine Segs.WP.val 20 rfl (some 61) (.pointer (some ⟨g5, 1, none⟩)) rfl (by kernel_rfl) (fun WW h => by kernel_rfl) ?_
              simp only [Act.put, List.setIfInBounds_toArray, List.set_cons_zero, List.set_cons_succ]
              refine Segs.WP.val 21 rfl (some 62) (.slice Ae V.e.length ce) rfl (by kernel_rfl) (fun WW h => Segs.run_cell 43 (.tmp 61) rfl g5 1 (by kernel_rfl) _ (isAggEnts _) ((ST.out WW (B2.out.call h).1).2.2.2.2.1)) ?_
              simp only [Act.put, List.setIfInBounds_toArray, List.set_cons_zero, List.set_cons_succ]
              refine Segs.WP.call 22 rfl (some 63) 36 #[.slice Ae V.e.length ce] (.int .i64 (checkN V.e)) rfl (by kernel_rfl) (fun W => by kernel_rfl) (fun WW h => (CK.out WW (B2.out.call h).1)) ?_
              simp only [Act.put, List.setIfInBounds_toArray, List.set_cons_zero, List.set_cons_succ]
              refine Segs.WP.val 23 rfl (some 64) (.bool true) rfl (by kernel_rfl) (fun WW h => run_nee rfl _ _ (by kernel_rfl) (by kernel_rfl) true K3.out) ?_
              simp only [Act.put, List.setIfInBounds_toArray, List.set_cons_zero, List.set_cons_succ]
              refine Segs.WP.val 24 rfl (some 65) (.bool true) rfl (by kernel_rfl) (fun WW h => by kernel_rfl) ?_
              simp only [Act.put, List.setIfInBounds_toArray, List.set_cons_zero, List.set_cons_succ]
              refine Segs.WP.val 25 rfl (some 66) (.bool true) rfl (by kernel_rfl) (fun WW h => by kernel_rfl) ?_
              simp only [Act.put, List.setIfInBounds_toArray, List.set_cons_zero, List.set_cons_succ]
              refine Segs.WP.not 26 rfl (some 67) rfl (by kernel_rfl) ?_
              simp only [Act.put, List.setIfInBounds_toArray, List.set_cons_zero, List.set_cons_succ]
              refine Segs.WP.not 27 rfl (some 68) rfl (by kernel_rfl) ?_
              simp only [Act.put, List.setIfInBounds_toArray, List.set_cons_zero, List.set_cons_succ]
              refine Segs.WP.not 28 rfl (some 69) rfl (by kernel_rfl) ?_
              simp only [Act.put, List.setIfInBounds_toArray, List.set_cons_zero, List.set_cons_succ]
              refine Segs.WP.val 29 rfl (some 70) (.bool true) rfl (by kernel_rfl) (fun WW h => by kernel_rfl) ?_
              simp only [Act.put, List.setIfInBounds_toArray, List.set_cons_zero, List.set_cons_succ]
              refine Segs.WP.val 30 rfl (some 71) (.bool true) rfl (by kernel_rfl) (fun WW h => by kernel_rfl) ?_
              simp only [Act.put, List.setIfInBounds_toArray, List.set_cons_zero, List.set_cons_succ]
              refine Segs.WP.not 31 rfl (some 72) rfl (by kernel_rfl) ?_
              simp only [Act.put, List.setIfInBounds_toArray, List.set_cons_zero, List.set_cons_succ]
              refine Segs.WP.not 32 rfl (some 73) rfl (by kernel_rfl) ?_
              simp only [Act.put, List.setIfInBounds_toArray, List.set_cons_zero, List.set_cons_succ]
              refine Segs.WP.not 33 rfl (some 74) rfl (by kernel_rfl) ?_
              simp only [Act.put, List.setIfInBounds_toArray, List.set_cons_zero, List.set_cons_succ]
              refine Segs.WP.val 34 rfl (some 75) (.bool true) rfl (by kernel_rfl) (fun WW h => by kernel_rfl) ?_
              simp only [Act.put, List.setIfInBounds_toArray, List.set_cons_zero, List.set_cons_succ]
              refine Segs.WP.val 35 rfl (some 76) (.bool true) rfl (by kernel_rfl) (fun WW h => by kernel_rfl) ?_
              simp only [Act.put, List.setIfInBounds_toArray, List.set_cons_zero, List.set_cons_succ]
              refine Segs.WP.not 36 rfl (some 77) rfl (by kernel_rfl) ?_
              simp only [Act.put, List.setIfInBounds_toArray, List.set_cons_zero, List.set_cons_succ]
              refine Segs.WP.not 37 rfl (some 78) rfl (by kernel_rfl) ?_
              simp only [Act.put, List.setIfInBounds_toArray, List.set_cons_zero, List.set_cons_succ]
              refine Segs.WP.not 38 rfl (some 79) rfl (by kernel_rfl) ?_
              simp only [Act.put, List.setIfInBounds_toArray, List.set_cons_zero, List.set_cons_succ]
              refine Segs.WP.not 39 rfl (some 80) rfl (by kernel_rfl) ?_
              simp only [Act.put, List.setIfInBounds_toArray, List.set_cons_zero, List.set_cons_succ]
              refine Segs.WP.val 40 rfl (some 81) (.bool true) rfl (by kernel_rfl) (fun WW h => by kernel_rfl) ?_
              simp only [Act.put, List.setIfInBounds_toArray, List.set_cons_zero, List.set_cons_succ]
              refine Segs.WP.fin (fun W3 hx => ?_)
              have B4 := Lib.hid (B2.out.call hx)
              clear hx
              go_wp2_with fail
              go_ret
              exact ⟨retB BD.out.symm, bel_trans' BB.out (BW5.out.call B4.out.1).1⟩
        · obtain ⟨kj, hkj⟩ : ∃ kj, k = kj + 1 := ⟨k - 1, by omega⟩
          have KJ := Lib.hid hkj
          obtain ⟨U, hU⟩ : ∃ U, M.all[kj]? = some U := ⟨_, List.getElem?_eq_getElem (by rw [← HZ.out]; omega)⟩
          have HU := Lib.hid hU
          have UC : Hid (∀ W, Below w1.heap.size w1 W → W.cell? ⟨b, o + kj * 4, none⟩ = some (.int .i64 U.b)) := Lib.hid (fun W hW => by
            obtain ⟨b', o', c', ve, vc, hv, hbl, he, hc, d0, d1, d2, d3⟩ := (V1.out.below hW).at_ HU.out
            simp only [Value.slice.injEq, Option.some.injEq, Addr.mk.injEq] at hv
            obtain ⟨⟨rfl, rfl, -⟩, -, -⟩ := hv
            exact d0)
          have KN : Hid (kj < z) := Lib.hid (by omega)
          have KL : Hid (k ≤ 1000) := Lib.hid (by omega)
          have K0 : Hid (decide ((k : Int) > 0) = true) := Lib.hid (decide_eq_true (by omega))
          clear hU
          by_cases t1 : V.b < 0
          · have BD : Hid (validM M = false) := Lib.hid (BADH.out (fun h => by have := h.1; omega))
            have K1 : Hid (decide (V.b < 0) = true) := Lib.hid (decide_eq_true (t1))
            have HB0 := Lib.hid (Bl.start w5)
            refine Segs.wp_region_perm Segs.Hist [(0, false), (1, false), (2, false), (3, false), (4, false), (5, false), (6, false), (7, false), (8, false), (9, false), (10, false), (11, false), (12, false), (13, false), (14, false), (15, false), (16, false), (17, false), (18, false), (19, false), (20, false), (21, false), (22, false), (23, false), (24, false), (25, false), (26, false), (27, false), (28, false), (29, false), (30, false), (31, false), (32, false), (33, false), (34, false), (35, false), (36, false), (37, false), (38, false), (39, false), (40, false)] Segs.Hist.refl Segs.Hist.trans (by kernel_rfl) (by kernel_rfl) rfl (by kernel_rfl) (Segs.WP.out ?_)
            have B2 := Lib.hid HB0.out.drew
            generalize w5.drew = W1 at B2 ⊢
            refine Segs.WP.val 0 rfl (some 41) (.pointer (some ⟨g5, 0, none⟩)) rfl (by kernel_rfl) (fun WW h => by kernel_rfl) ?_
            simp only [Act.put, List.setIfInBounds_toArray, List.set_cons_zero, List.set_cons_succ]
            refine Segs.WP.val 1 rfl (some 42) (.int .i64 (V.b)) rfl (by kernel_rfl) (fun WW h => Segs.run_cell 3 (.tmp 41) rfl g5 0 (by kernel_rfl) _ (isAggInt _) ((ST.out WW (B2.out.call h).1).2.2.2.1)) ?_
            simp only [Act.put, List.setIfInBounds_toArray, List.set_cons_zero, List.set_cons_succ]
            refine Segs.WP.val 2 rfl (some 43) (.bool true) rfl (by kernel_rfl) (fun WW h => run_lti rfl _ _ (by kernel_rfl) (by kernel_rfl) true K1.out) ?_
            simp only [Act.put, List.setIfInBounds_toArray, List.set_cons_zero, List.set_cons_succ]
            refine Segs.WP.val 3 rfl (some 44) (.bool true) rfl (by kernel_rfl) (fun WW h => by kernel_rfl) ?_
            simp only [Act.put, List.setIfInBounds_toArray, List.set_cons_zero, List.set_cons_succ]
            refine Segs.WP.not 4 rfl (some 45) rfl (by kernel_rfl) ?_
            simp only [Act.put, List.setIfInBounds_toArray, List.set_cons_zero, List.set_cons_succ]
            refine Segs.WP.not 5 rfl (some 46) rfl (by kernel_rfl) ?_
            simp only [Act.put, List.setIfInBounds_toArray, List.set_cons_zero, List.set_cons_succ]
            refine Segs.WP.not 6 rfl (some 47) rfl (by kernel_rfl) ?_
            simp only [Act.put, List.setIfInBounds_toArray, List.set_cons_zero, List.set_cons_succ]
            refine Segs.WP.not 7 rfl (some 48) rfl (by kernel_rfl) ?_
            simp only [Act.put, List.setIfInBounds_toArray, List.set_cons_zero, List.set_cons_succ]
            refine Segs.WP.not 8 rfl (some 49) rfl (by kernel_rfl) ?_
            simp only [Act.put, List.setIfInBounds_toArray, List.set_cons_zero, List.set_cons_succ]
            refine Segs.WP.not 9 rfl (some 50) rfl (by kernel_rfl) ?_
            simp only [Act.put, List.setIfInBounds_toArray, List.set_cons_zero, List.set_cons_succ]
            refine Segs.WP.not 10 rfl (some 51) rfl (by kernel_rfl) ?_
            simp only [Act.put, List.setIfInBounds_toArray, List.set_cons_zero, List.set_cons_succ]
            refine Segs.WP.not 11 rfl (some 52) rfl (by kernel_rfl) ?_
            simp only [Act.put, List.setIfInBounds_toArray, List.set_cons_zero, List.set_cons_succ]
            refine Segs.WP.not 12 rfl (some 53) rfl (by kernel_rfl) ?_
            simp only [Act.put, List.setIfInBounds_toArray, List.set_cons_zero, List.set_cons_succ]
            refine Segs.WP.not 13 rfl (some 54) rfl (by kernel_rfl) ?_
            simp only [Act.put, List.setIfInBounds_toArray, List.set_cons_zero, List.set_cons_succ]
            refine Segs.WP.not 14 rfl (some 55) rfl (by kernel_rfl) ?_
            simp only [Act.put, List.setIfInBounds_toArray, List.set_cons_zero, List.set_cons_succ]
            refine Segs.WP.not 15 rfl (some 56) rfl (by kernel_rfl) ?_
            simp only [Act.put, List.setIfInBounds_toArray, List.set_cons_zero, List.set_cons_succ]
            refine Segs.WP.not 16 rfl (some 57) rfl (by kernel_rfl) ?_
            simp only [Act.put, List.setIfInBounds_toArray, List.set_cons_zero, List.set_cons_succ]
            refine Segs.WP.not 17 rfl (some 58) rfl (by kernel_rfl) ?_
            simp only [Act.put, List.setIfInBounds_toArray, List.set_cons_zero, List.set_cons_succ]
            refine Segs.WP.val 18 rfl (some 59) (.bool true) rfl (by kernel_rfl) (fun WW h => by kernel_rfl) ?_
            simp only [Act.put, List.setIfInBounds_toArray, List.set_cons_zero, List.set_cons_succ]
            refine Segs.WP.val 19 rfl (some 60) (.bool true) rfl (by kernel_rfl) (fun WW h => by kernel_rfl) ?_
            simp only [Act.put, List.setIfInBounds_toArray, List.set_cons_zero, List.set_cons_succ]
            refine Segs.WP.not 20 rfl (some 61) rfl (by kernel_rfl) ?_
            simp only [Act.put, List.setIfInBounds_toArray, List.set_cons_zero, List.set_cons_succ]
            refine Segs.WP.not 21 rfl (some 62) rfl (by kernel_rfl) ?_
            simp only [Act.put, List.setIfInBounds_toArray, List.set_cons_zero, List.set_cons_succ]
            refine Segs.WP.not 22 rfl (some 63) rfl (by kernel_rfl) ?_
            simp only [Act.put, List.setIfInBounds_toArray, List.set_cons_zero, List.set_cons_succ]
            refine Segs.WP.not 23 rfl (some 64) rfl (by kernel_rfl) ?_
            simp only [Act.put, List.setIfInBounds_toArray, List.set_cons_zero, List.set_cons_succ]
            refine Segs.WP.val 24 rfl (some 65) (.bool true) rfl (by kernel_rfl) (fun WW h => by kernel_rfl) ?_
            simp only [Act.put, List.setIfInBounds_toArray, List.set_cons_zero, List.set_cons_succ]
            refine Segs.WP.val 25 rfl (some 66) (.bool true) rfl (by kernel_rfl) (fun WW h => by kernel_rfl) ?_
            simp only [Act.put, List.setIfInBounds_toArray, List.set_cons_zero, List.set_cons_succ]
            refine Segs.WP.not 26 rfl (some 67) rfl (by kernel_rfl) ?_
            simp only [Act.put, List.setIfInBounds_toArray, List.set_cons_zero, List.set_cons_succ]
            refine Segs.WP.not 27 rfl (some 68) rfl (by kernel_rfl) ?_
            simp only [Act.put, List.setIfInBounds_toArray, List.set_cons_zero, List.set_cons_succ]
            refine Segs.WP.not 28 rfl (some 69) rfl (by kernel_rfl) ?_
            simp only [Act.put, List.setIfInBounds_toArray, List.set_cons_zero, List.set_cons_succ]
            refine Segs.WP.val 29 rfl (some 70) (.bool true) rfl (by kernel_rfl) (fun WW h => by kernel_rfl) ?_
            simp only [Act.put, List.setIfInBounds_toArray, List.set_cons_zero, List.set_cons_succ]
            refine Segs.WP.val 30 rfl (some 71) (.bool true) rfl (by kernel_rfl) (fun WW h => by kernel_rfl) ?_
            simp only [Act.put, List.setIfInBounds_toArray, List.set_cons_zero, List.set_cons_succ]
            refine Segs.WP.not 31 rfl (some 72) rfl (by kernel_rfl) ?_
            simp only [Act.put, List.setIfInBounds_toArray, List.set_cons_zero, List.set_cons_succ]
            refine Segs.WP.not 32 rfl (some 73) rfl (by kernel_rfl) ?_
            simp only [Act.put, List.setIfInBounds_toArray, List.set_cons_zero, List.set_cons_succ]
            refine Segs.WP.not 33 rfl (some 74) rfl (by kernel_rfl) ?_
            simp only [Act.put, List.setIfInBounds_toArray, List.set_cons_zero, List.set_cons_succ]
            refine Segs.WP.val 34 rfl (some 75) (.bool true) rfl (by kernel_rfl) (fun WW h => by kernel_rfl) ?_
            simp only [Act.put, List.setIfInBounds_toArray, List.set_cons_zero, List.set_cons_succ]
            refine Segs.WP.val 35 rfl (some 76) (.bool true) rfl (by kernel_rfl) (fun WW h => by kernel_rfl) ?_
            simp only [Act.put, List.setIfInBounds_toArray, List.set_cons_zero, List.set_cons_succ]
            refine Segs.WP.not 36 rfl (some 77) rfl (by kernel_rfl) ?_
            simp only [Act.put, List.setIfInBounds_toArray, List.set_cons_zero, List.set_cons_succ]
            refine Segs.WP.not 37 rfl (some 78) rfl (by kernel_rfl) ?_
            simp only [Act.put, List.setIfInBounds_toArray, List.set_cons_zero, List.set_cons_succ]
            refine Segs.WP.not 38 rfl (some 79) rfl (by kernel_rfl) ?_
            simp only [Act.put, List.setIfInBounds_toArray, List.set_cons_zero, List.set_cons_succ]
            refine Segs.WP.not 39 rfl (some 80) rfl (by kernel_rfl) ?_
            simp only [Act.put, List.setIfInBounds_toArray, List.set_cons_zero, List.set_cons_succ]
            refine Segs.WP.val 40 rfl (some 81) (.bool true) rfl (by kernel_rfl) (fun WW h => by kernel_rfl) ?_
            simp only [Act.put, List.setIfInBounds_toArray, List.set_cons_zero, List.set_cons_succ]
            refine Segs.WP.fin (fun W3 hx => ?_)
            have B4 := Lib.hid (B2.out.call hx)
            clear hx
            go_wp2_with fail
            go_ret
            exact ⟨retB BD.out.symm, bel_trans' BB.out (BW5.out.call B4.out.1).1⟩
          · have K1 : Hid (decide (V.b < 0) = false) := Lib.hid (decide_eq_false (t1))
            by_cases t2 : U.b ≥ V.b
            · have BD : Hid (validM M = false) := Lib.hid (BADH.out (fun h => by have := h.2.1 kj U KJ.out HU.out; omega))
              have K2 : Hid (decide (U.b ≥ V.b) = true) := Lib.hid (decide_eq_true (t2))
              have HB0 := Lib.hid (Bl.start w5)
              refine Segs.wp_region_perm Segs.Hist [(0, false), (1, false), (2, false), (3, false), (4, false), (5, false), (6, false), (7, false), (8, false), (9, false), (10, false), (11, false), (12, false), (13, false), (14, false), (15, false), (16, false), (17, false), (18, false), (19, false), (20, false), (21, false), (22, false), (23, false), (24, false), (25, false), (26, false), (27, false), (28, false), (29, false), (30, false), (31, false), (32, false), (33, false), (34, false), (35, false), (36, false), (37, false), (38, false), (39, false), (40, false)] Segs.Hist.refl Segs.Hist.trans (by kernel_rfl) (by kernel_rfl) rfl (by kernel_rfl) (Segs.WP.out ?_)
              have B2 := Lib.hid HB0.out.drew
              generalize w5.drew = W1 at B2 ⊢
              refine Segs.WP.val 0 rfl (some 41) (.pointer (some ⟨g5, 0, none⟩)) rfl (by kernel_rfl) (fun WW h => by kernel_rfl) ?_
              simp only [Act.put, List.setIfInBounds_toArray, List.set_cons_zero, List.set_cons_succ]
              refine Segs.WP.val 1 rfl (some 42) (.int .i64 (V.b)) rfl (by kernel_rfl) (fun WW h => Segs.run_cell 3 (.tmp 41) rfl g5 0 (by kernel_rfl) _ (isAggInt _) ((ST.out WW (B2.out.call h).1).2.2.2.1)) ?_
              simp only [Act.put, List.setIfInBounds_toArray, List.set_cons_zero, List.set_cons_succ]
              refine Segs.WP.val 2 rfl (some 43) (.bool false) rfl (by kernel_rfl) (fun WW h => run_lti rfl _ _ (by kernel_rfl) (by kernel_rfl) false K1.out) ?_
              simp only [Act.put, List.setIfInBounds_toArray, List.set_cons_zero, List.set_cons_succ]
              refine Segs.WP.val 3 rfl (some 44) (.bool false) rfl (by kernel_rfl) (fun WW h => by kernel_rfl) ?_
              simp only [Act.put, List.setIfInBounds_toArray, List.set_cons_zero, List.set_cons_succ]
              refine Segs.WP.val 4 rfl (some 45) (.int .i64 ((k : Int))) rfl (by kernel_rfl) (fun WW h => by kernel_rfl) ?_
              simp only [Act.put, List.setIfInBounds_toArray, List.set_cons_zero, List.set_cons_succ]
              refine Segs.WP.val 5 rfl (some 46) (.bool true) rfl (by kernel_rfl) (fun WW h => run_gti rfl _ _ (by kernel_rfl) (by kernel_rfl) true K0.out) ?_
              simp only [Act.put, List.setIfInBounds_toArray, List.set_cons_zero, List.set_cons_succ]
              refine Segs.WP.val 6 rfl (some 47) (.bool true) rfl (by kernel_rfl) (fun WW h => by kernel_rfl) ?_
              simp only [Act.put, List.setIfInBounds_toArray, List.set_cons_zero, List.set_cons_succ]
              refine Segs.WP.val 7 rfl (some 48) (.pointer (some ⟨g, 2, none⟩)) rfl (by kernel_rfl) (fun WW h => by kernel_rfl) ?_
              simp only [Act.put, List.setIfInBounds_toArray, List.set_cons_zero, List.set_cons_succ]
              refine Segs.WP.val 8 rfl (some 49) (.slice (some ⟨b, o, none⟩) z c) rfl (by kernel_rfl) (fun WW h => Segs.run_cell 35 (.tmp 48) rfl g 2 (by kernel_rfl) _ (isAggRows _) ((ST.out WW (B2.out.call h).1).2.2.1)) ?_
              simp only [Act.put, List.setIfInBounds_toArray, List.set_cons_zero, List.set_cons_succ]
              refine Segs.WP.val 9 rfl (some 50) (.int .i64 ((k : Int))) rfl (by kernel_rfl) (fun WW h => by kernel_rfl) ?_
              simp only [Act.put, List.setIfInBounds_toArray, List.set_cons_zero, List.set_cons_succ]
              refine Segs.WP.val 10 rfl (some 51) (.int .i64 ((kj : Int))) rfl (by kernel_rfl) (fun WW h => run_pred rfl k kj (by kernel_rfl) (by kernel_rfl) KJ.out KL.out) ?_
              simp only [Act.put, List.setIfInBounds_toArray, List.set_cons_zero, List.set_cons_succ]
              refine Segs.WP.val 11 rfl (some 52) (.pointer (some ⟨b, (o + kj * 4), none⟩)) rfl (by kernel_rfl) (fun WW h => run_indexK elemRV sizeRV rfl b o z c kj (by kernel_rfl) (by kernel_rfl) KN.out) ?_
              simp only [Act.put, List.setIfInBounds_toArray, List.set_cons_zero, List.set_cons_succ]
              refine Segs.WP.val 12 rfl (some 53) (.pointer (some ⟨b, (o + kj * 4), none⟩)) rfl (by kernel_rfl) (fun WW h => by kernel_rfl) ?_
              simp only [Act.put, List.setIfInBounds_toArray, List.set_cons_zero, List.set_cons_succ]
              refine Segs.WP.val 13 rfl (some 54) (.int .i64 (U.b)) rfl (by kernel_rfl) (fun WW h => Segs.run_cell 3 (.tmp 53) rfl b (o + kj * 4) (by kernel_rfl) _ (isAggInt _) (UC.out WW (bel_trans' BW5.out.1 (B2.out.call h).1))) ?_
              simp only [Act.put, List.setIfInBounds_toArray, List.set_cons_zero, List.set_cons_succ]
              refine Segs.WP.val 14 rfl (some 55) (.pointer (some ⟨g5, 0, none⟩)) rfl (by kernel_rfl) (fun WW h => by kernel_rfl) ?_
              simp only [Act.put, List.setIfInBounds_toArray, List.set_cons_zero, List.set_cons_succ]
              refine Segs.WP.val 15 rfl (some 56) (.int .i64 (V.b)) rfl (by kernel_rfl) (fun WW h => Segs.run_cell 3 (.tmp 55) rfl g5 0 (by kernel_rfl) _ (isAggInt _) ((ST.out WW (B2.out.call h).1).2.2.2.1)) ?_
              simp only [Act.put, List.setIfInBounds_toArray, List.set_cons_zero, List.set_cons_succ]
              refine Segs.WP.val 16 rfl (some 57) (.bool true) rfl (by kernel_rfl) (fun WW h => run_gei rfl _ _ (by kernel_rfl) (by kernel_rfl) true K2.out) ?_
              simp only [Act.put, List.setIfInBounds_toArray, List.set_cons_zero, List.set_cons_succ]
              refine Segs.WP.val 17 rfl (some 58) (.bool true) rfl (by kernel_rfl) (fun WW h => by kernel_rfl) ?_
              simp only [Act.put, List.setIfInBounds_toArray, List.set_cons_zero, List.set_cons_succ]
              refine Segs.WP.val 18 rfl (some 59) (.bool true) rfl (by kernel_rfl) (fun WW h => by kernel_rfl) ?_
              simp only [Act.put, List.setIfInBounds_toArray, List.set_cons_zero, List.set_cons_succ]
              refine Segs.WP.val 19 rfl (some 60) (.bool true) rfl (by kernel_rfl) (fun WW h => by kernel_rfl) ?_
              simp only [Act.put, List.setIfInBounds_toArray, List.set_cons_zero, List.set_cons_succ]
              refine Segs.WP.not 20 rfl (some 61) rfl (by kernel_rfl) ?_
              simp only [Act.put, List.setIfInBounds_toArray, List.set_cons_zero, List.set_cons_succ]
              refine Segs.WP.not 21 rfl (some 62) rfl (by kernel_rfl) ?_
              simp only [Act.put, List.setIfInBounds_toArray, List.set_cons_zero, List.set_cons_succ]
              refine Segs.WP.not 22 rfl (some 63) rfl (by kernel_rfl) ?_
              simp only [Act.put, List.setIfInBounds_toArray, List.set_cons_zero, List.set_cons_succ]
              refine Segs.WP.not 23 rfl (some 64) rfl (by kernel_rfl) ?_
              simp only [Act.put, List.setIfInBounds_toArray, List.set_cons_zero, List.set_cons_succ]
              refine Segs.WP.val 24 rfl (some 65) (.bool true) rfl (by kernel_rfl) (fun WW h => by kernel_rfl) ?_
              simp only [Act.put, List.setIfInBounds_toArray, List.set_cons_zero, List.set_cons_succ]
              refine Segs.WP.val 25 rfl (some 66) (.bool true) rfl (by kernel_rfl) (fun WW h => by kernel_rfl) ?_
              simp only [Act.put, List.setIfInBounds_toArray, List.set_cons_zero, List.set_cons_succ]
              refine Segs.WP.not 26 rfl (some 67) rfl (by kernel_rfl) ?_
              simp only [Act.put, List.setIfInBounds_toArray, List.set_cons_zero, List.set_cons_succ]
              refine Segs.WP.not 27 rfl (some 68) rfl (by kernel_rfl) ?_
              simp only [Act.put, List.setIfInBounds_toArray, List.set_cons_zero, List.set_cons_succ]
              refine Segs.WP.not 28 rfl (some 69) rfl (by kernel_rfl) ?_
              simp only [Act.put, List.setIfInBounds_toArray, List.set_cons_zero, List.set_cons_succ]
              refine Segs.WP.val 29 rfl (some 70) (.bool true) rfl (by kernel_rfl) (fun WW h => by kernel_rfl) ?_
              simp only [Act.put, List.setIfInBounds_toArray, List.set_cons_zero, List.set_cons_succ]
              refine Segs.WP.val 30 rfl (some 71) (.bool true) rfl (by kernel_rfl) (fun WW h => by kernel_rfl) ?_
              simp only [Act.put, List.setIfInBounds_toArray, List.set_cons_zero, List.set_cons_succ]
              refine Segs.WP.not 31 rfl (some 72) rfl (by kernel_rfl) ?_
              simp only [Act.put, List.setIfInBounds_toArray, List.set_cons_zero, List.set_cons_succ]
              refine Segs.WP.not 32 rfl (some 73) rfl (by kernel_rfl) ?_
              simp only [Act.put, List.setIfInBounds_toArray, List.set_cons_zero, List.set_cons_succ]
              refine Segs.WP.not 33 rfl (some 74) rfl (by kernel_rfl) ?_
              simp only [Act.put, List.setIfInBounds_toArray, List.set_cons_zero, List.set_cons_succ]
              refine Segs.WP.val 34 rfl (some 75) (.bool true) rfl (by kernel_rfl) (fun WW h => by kernel_rfl) ?_
              simp only [Act.put, List.setIfInBounds_toArray, List.set_cons_zero, List.set_cons_succ]
              refine Segs.WP.val 35 rfl (some 76) (.bool true) rfl (by kernel_rfl) (fun WW h => by kernel_rfl) ?_
              simp only [Act.put, List.setIfInBounds_toArray, List.set_cons_zero, List.set_cons_succ]
              refine Segs.WP.not 36 rfl (some 77) rfl (by kernel_rfl) ?_
              simp only [Act.put, List.setIfInBounds_toArray, List.set_cons_zero, List.set_cons_succ]
              refine Segs.WP.not 37 rfl (some 78) rfl (by kernel_rfl) ?_
              simp only [Act.put, List.setIfInBounds_toArray, List.set_cons_zero, List.set_cons_succ]
              refine Segs.WP.not 38 rfl (some 79) rfl (by kernel_rfl) ?_
              simp only [Act.put, List.setIfInBounds_toArray, List.set_cons_zero, List.set_cons_succ]
              refine Segs.WP.not 39 rfl (some 80) rfl (by kernel_rfl) ?_
              simp only [Act.put, List.setIfInBounds_toArray, List.set_cons_zero, List.set_cons_succ]
              refine Segs.WP.val 40 rfl (some 81) (.bool true) rfl (by kernel_rfl) (fun WW h => by kernel_rfl) ?_
              simp only [Act.put, List.setIfInBounds_toArray, List.set_cons_zero, List.set_cons_succ]
              refine Segs.WP.fin (fun W3 hx => ?_)
              have B4 := Lib.hid (B2.out.call hx)
              clear hx
              go_wp2_with fail
              go_ret
              exact ⟨retB BD.out.symm, bel_trans' BB.out (BW5.out.call B4.out.1).1⟩
            · have K2 : Hid (decide (U.b ≥ V.b) = false) := Lib.hid (decide_eq_false (t2))
              by_cases t3 : checkN V.e = 0
              · have K3 : Hid (decide (¬ checkN V.e = 0) = false) := Lib.hid (decide_eq_false (fun h => h t3))
                by_cases t4 : V.p < 0
                · have BD : Hid (validM M = false) := Lib.hid (BADH.out (fun h => by have := h.2.2.2.1; omega))
                  have K4 : Hid (decide (V.p < 0) = true) := Lib.hid (decide_eq_true (t4))
                  clear t3
                  have HB0 := Lib.hid (Bl.start w5)
                  refine Segs.wp_region_perm Segs.Hist [(0, false), (1, false), (2, false), (3, false), (4, false), (5, false), (6, false), (7, false), (8, false), (9, false), (10, false), (11, false), (12, false), (13, false), (14, false), (15, false), (16, false), (17, false), (18, false), (19, false), (20, false), (21, false), (22, false), (23, false), (24, false), (25, false), (26, false), (27, false), (28, false), (29, false), (30, false), (31, false), (32, false), (33, false), (34, false), (35, false), (36, false), (37, false), (38, false), (39, false), (40, false)] Segs.Hist.refl Segs.Hist.trans (by kernel_rfl) (by kernel_rfl) rfl (by kernel_rfl) (Segs.WP.out ?_)
                  have B2 := Lib.hid HB0.out.drew
                  generalize w5.drew = W1 at B2 ⊢
                  refine Segs.WP.val 0 rfl (some 41) (.pointer (some ⟨g5, 0, none⟩)) rfl (by kernel_rfl) (fun WW h => by kernel_rfl) ?_
                  simp only [Act.put, List.setIfInBounds_toArray, List.set_cons_zero, List.set_cons_succ]
                  refine Segs.WP.val 1 rfl (some 42) (.int .i64 (V.b)) rfl (by kernel_rfl) (fun WW h => Segs.run_cell 3 (.tmp 41) rfl g5 0 (by kernel_rfl) _ (isAggInt _) ((ST.out WW (B2.out.call h).1).2.2.2.1)) ?_
                  simp only [Act.put, List.setIfInBounds_toArray, List.set_cons_zero, List.set_cons_succ]
                  refine Segs.WP.val 2 rfl (some 43) (.bool false) rfl (by kernel_rfl) (fun WW h => run_lti rfl _ _ (by kernel_rfl) (by kernel_rfl) false K1.out) ?_
                  simp only [Act.put, List.setIfInBounds_toArray, List.set_cons_zero, List.set_cons_succ]
                  refine Segs.WP.val 3 rfl (some 44) (.bool false) rfl (by kernel_rfl) (fun WW h => by kernel_rfl) ?_
                  simp only [Act.put, List.setIfInBounds_toArray, List.set_cons_zero, List.set_cons_succ]
                  refine Segs.WP.val 4 rfl (some 45) (.int .i64 ((k : Int))) rfl (by kernel_rfl) (fun WW h => by kernel_rfl) ?_
                  simp only [Act.put, List.setIfInBounds_toArray, List.set_cons_zero, List.set_cons_succ]
                  refine Segs.WP.val 5 rfl (some 46) (.bool true) rfl (by kernel_rfl) (fun WW h => run_gti rfl _ _ (by kernel_rfl) (by kernel_rfl) true K0.out) ?_
                  simp only [Act.put, List.setIfInBounds_toArray, List.set_cons_zero, List.set_cons_succ]
                  refine Segs.WP.val 6 rfl (some 47) (.bool true) rfl (by kernel_rfl) (fun WW h => by kernel_rfl) ?_
                  simp only [Act.put, List.setIfInBounds_toArray, List.set_cons_zero, List.set_cons_succ]
                  refine Segs.WP.val 7 rfl (some 48) (.pointer (some ⟨g, 2, none⟩)) rfl (by kernel_rfl) (fun WW h => by kernel_rfl) ?_
                  simp only [Act.put, List.setIfInBounds_toArray, List.set_cons_zero, List.set_cons_succ]
                  refine Segs.WP.val 8 rfl (some 49) (.slice (some ⟨b, o, none⟩) z c) rfl (by kernel_rfl) (fun WW h => Segs.run_cell 35 (.tmp 48) rfl g 2 (by kernel_rfl) _ (isAggRows _) ((ST.out WW (B2.out.call h).1).2.2.1)) ?_
                  simp only [Act.put, List.setIfInBounds_toArray, List.set_cons_zero, List.set_cons_succ]
                  refine Segs.WP.val 9 rfl (some 50) (.int .i64 ((k : Int))) rfl (by kernel_rfl) (fun WW h => by kernel_rfl) ?_
                  simp only [Act.put, List.setIfInBounds_toArray, List.set_cons_zero, List.set_cons_succ]
                  refine Segs.WP.val 10 rfl (some 51) (.int .i64 ((kj : Int))) rfl (by kernel_rfl) (fun WW h => run_pred rfl k kj (by kernel_rfl) (by kernel_rfl) KJ.out KL.out) ?_
                  simp only [Act.put, List.setIfInBounds_toArray, List.set_cons_zero, List.set_cons_succ]
                  refine Segs.WP.val 11 rfl (some 52) (.pointer (some ⟨b, (o + kj * 4), none⟩)) rfl (by kernel_rfl) (fun WW h => run_indexK elemRV sizeRV rfl b o z c kj (by kernel_rfl) (by kernel_rfl) KN.out) ?_
                  simp only [Act.put, List.setIfInBounds_toArray, List.set_cons_zero, List.set_cons_succ]
                  refine Segs.WP.val 12 rfl (some 53) (.pointer (some ⟨b, (o + kj * 4), none⟩)) rfl (by kernel_rfl) (fun WW h => by kernel_rfl) ?_
                  simp only [Act.put, List.setIfInBounds_toArray, List.set_cons_zero, List.set_cons_succ]
                  refine Segs.WP.val 13 rfl (some 54) (.int .i64 (U.b)) rfl (by kernel_rfl) (fun WW h => Segs.run_cell 3 (.tmp 53) rfl b (o + kj * 4) (by kernel_rfl) _ (isAggInt _) (UC.out WW (bel_trans' BW5.out.1 (B2.out.call h).1))) ?_
                  simp only [Act.put, List.setIfInBounds_toArray, List.set_cons_zero, List.set_cons_succ]
                  refine Segs.WP.val 14 rfl (some 55) (.pointer (some ⟨g5, 0, none⟩)) rfl (by kernel_rfl) (fun WW h => by kernel_rfl) ?_
                  simp only [Act.put, List.setIfInBounds_toArray, List.set_cons_zero, List.set_cons_succ]
                  refine Segs.WP.val 15 rfl (some 56) (.int .i64 (V.b)) rfl (by kernel_rfl) (fun WW h => Segs.run_cell 3 (.tmp 55) rfl g5 0 (by kernel_rfl) _ (isAggInt _) ((ST.out WW (B2.out.call h).1).2.2.2.1)) ?_
                  simp only [Act.put, List.setIfInBounds_toArray, List.set_cons_zero, List.set_cons_succ]
                  refine Segs.WP.val 16 rfl (some 57) (.bool false) rfl (by kernel_rfl) (fun WW h => run_gei rfl _ _ (by kernel_rfl) (by kernel_rfl) false K2.out) ?_
                  simp only [Act.put, List.setIfInBounds_toArray, List.set_cons_zero, List.set_cons_succ]
                  refine Segs.WP.val 17 rfl (some 58) (.bool false) rfl (by kernel_rfl) (fun WW h => by kernel_rfl) ?_
                  simp only [Act.put, List.setIfInBounds_toArray, List.set_cons_zero, List.set_cons_succ]
                  refine Segs.WP.val 18 rfl (some 59) (.bool false) rfl (by kernel_rfl) (fun WW h => by kernel_rfl) ?_
                  simp only [Act.put, List.setIfInBounds_toArray, List.set_cons_zero, List.set_cons_succ]
                  refine Segs.WP.val 19 rfl (some 60) (.bool false) rfl (by kernel_rfl) (fun WW h => by kernel_rfl) ?_
                  simp only [Act.put, List.setIfInBounds_toArray, List.set_cons_zero, List.set_cons_succ]
                  refine Segs.WP.val 20 rfl (some 61) (.pointer (some ⟨g5, 1, none⟩)) rfl (by kernel_rfl) (fun WW h => by kernel_rfl) ?_
                  simp only [Act.put, List.setIfInBounds_toArray, List.set_cons_zero, List.set_cons_succ]
                  refine Segs.WP.val 21 rfl (some 62) (.slice Ae V.e.length ce) rfl (by kernel_rfl) (fun WW h => Segs.run_cell 43 (.tmp 61) rfl g5 1 (by kernel_rfl) _ (isAggEnts _) ((ST.out WW (B2.out.call h).1).2.2.2.2.1)) ?_
                  simp only [Act.put, List.setIfInBounds_toArray, List.set_cons_zero, List.set_cons_succ]
                  refine Segs.WP.call 22 rfl (some 63) 36 #[.slice Ae V.e.length ce] (.int .i64 (checkN V.e)) rfl (by kernel_rfl) (fun W => by kernel_rfl) (fun WW h => (CK.out WW (B2.out.call h).1)) ?_
                  simp only [Act.put, List.setIfInBounds_toArray, List.set_cons_zero, List.set_cons_succ]
                  refine Segs.WP.val 23 rfl (some 64) (.bool false) rfl (by kernel_rfl) (fun WW h => run_nee rfl _ _ (by kernel_rfl) (by kernel_rfl) false K3.out) ?_
                  simp only [Act.put, List.setIfInBounds_toArray, List.set_cons_zero, List.set_cons_succ]
                  refine Segs.WP.val 24 rfl (some 65) (.bool false) rfl (by kernel_rfl) (fun WW h => by kernel_rfl) ?_
                  simp only [Act.put, List.setIfInBounds_toArray, List.set_cons_zero, List.set_cons_succ]
                  refine Segs.WP.val 25 rfl (some 66) (.bool false) rfl (by kernel_rfl) (fun WW h => by kernel_rfl) ?_
                  simp only [Act.put, List.setIfInBounds_toArray, List.set_cons_zero, List.set_cons_succ]
                  refine Segs.WP.val 26 rfl (some 67) (.pointer (some ⟨g5, 3, none⟩)) rfl (by kernel_rfl) (fun WW h => by kernel_rfl) ?_
                  simp only [Act.put, List.setIfInBounds_toArray, List.set_cons_zero, List.set_cons_succ]
                  refine Segs.WP.val 27 rfl (some 68) (.int .i64 (V.p)) rfl (by kernel_rfl) (fun WW h => Segs.run_cell 3 (.tmp 67) rfl g5 3 (by kernel_rfl) _ (isAggInt _) ((ST.out WW (B2.out.call h).1).2.2.2.2.2.2)) ?_
                  simp only [Act.put, List.setIfInBounds_toArray, List.set_cons_zero, List.set_cons_succ]
                  refine Segs.WP.val 28 rfl (some 69) (.bool true) rfl (by kernel_rfl) (fun WW h => run_lti rfl _ _ (by kernel_rfl) (by kernel_rfl) true K4.out) ?_
                  simp only [Act.put, List.setIfInBounds_toArray, List.set_cons_zero, List.set_cons_succ]
                  refine Segs.WP.val 29 rfl (some 70) (.bool true) rfl (by kernel_rfl) (fun WW h => by kernel_rfl) ?_
                  simp only [Act.put, List.setIfInBounds_toArray, List.set_cons_zero, List.set_cons_succ]
                  refine Segs.WP.val 30 rfl (some 71) (.bool true) rfl (by kernel_rfl) (fun WW h => by kernel_rfl) ?_
                  simp only [Act.put, List.setIfInBounds_toArray, List.set_cons_zero, List.set_cons_succ]
                  refine Segs.WP.not 31 rfl (some 72) rfl (by kernel_rfl) ?_
                  simp only [Act.put, List.setIfInBounds_toArray, List.set_cons_zero, List.set_cons_succ]
                  refine Segs.WP.not 32 rfl (some 73) rfl (by kernel_rfl) ?_
                  simp only [Act.put, List.setIfInBounds_toArray, List.set_cons_zero, List.set_cons_succ]
                  refine Segs.WP.not 33 rfl (some 74) rfl (by kernel_rfl) ?_
                  simp only [Act.put, List.setIfInBounds_toArray, List.set_cons_zero, List.set_cons_succ]
                  refine Segs.WP.val 34 rfl (some 75) (.bool true) rfl (by kernel_rfl) (fun WW h => by kernel_rfl) ?_
                  simp only [Act.put, List.setIfInBounds_toArray, List.set_cons_zero, List.set_cons_succ]
                  refine Segs.WP.val 35 rfl (some 76) (.bool true) rfl (by kernel_rfl) (fun WW h => by kernel_rfl) ?_
                  simp only [Act.put, List.setIfInBounds_toArray, List.set_cons_zero, List.set_cons_succ]
                  refine Segs.WP.not 36 rfl (some 77) rfl (by kernel_rfl) ?_
                  simp only [Act.put, List.setIfInBounds_toArray, List.set_cons_zero, List.set_cons_succ]
                  refine Segs.WP.not 37 rfl (some 78) rfl (by kernel_rfl) ?_
                  simp only [Act.put, List.setIfInBounds_toArray, List.set_cons_zero, List.set_cons_succ]
                  refine Segs.WP.not 38 rfl (some 79) rfl (by kernel_rfl) ?_
                  simp only [Act.put, List.setIfInBounds_toArray, List.set_cons_zero, List.set_cons_succ]
                  refine Segs.WP.not 39 rfl (some 80) rfl (by kernel_rfl) ?_
                  simp only [Act.put, List.setIfInBounds_toArray, List.set_cons_zero, List.set_cons_succ]
                  refine Segs.WP.val 40 rfl (some 81) (.bool true) rfl (by kernel_rfl) (fun WW h => by kernel_rfl) ?_
                  simp only [Act.put, List.setIfInBounds_toArray, List.set_cons_zero, List.set_cons_succ]
                  refine Segs.WP.fin (fun W3 hx => ?_)
                  have B4 := Lib.hid (B2.out.call hx)
                  clear hx
                  go_wp2_with fail
                  go_ret
                  exact ⟨retB BD.out.symm, bel_trans' BB.out (BW5.out.call B4.out.1).1⟩
                · have K4 : Hid (decide (V.p < 0) = false) := Lib.hid (decide_eq_false (t4))
                  by_cases t5 : V.p > 1048576
                  · have BD : Hid (validM M = false) := Lib.hid (BADH.out (fun h => by have := h.2.2.2.2.1; omega))
                    have K5 : Hid (decide (V.p > 1048576) = true) := Lib.hid (decide_eq_true (t5))
                    clear t3
                    have HB0 := Lib.hid (Bl.start w5)
                    refine Segs.wp_region_perm Segs.Hist [(0, false), (1, false), (2, false), (3, false), (4, false), (5, false), (6, false), (7, false), (8, false), (9, false), (10, false), (11, false), (12, false), (13, false), (14, false), (15, false), (16, false), (17, false), (18, false), (19, false), (20, false), (21, false), (22, false), (23, false), (24, false), (25, false), (26, false), (27, false), (28, false), (29, false), (30, false), (31, false), (32, false), (33, false), (34, false), (35, false), (36, false), (37, false), (38, false), (39, false), (40, false)] Segs.Hist.refl Segs.Hist.trans (by kernel_rfl) (by kernel_rfl) rfl (by kernel_rfl) (Segs.WP.out ?_)
                    have B2 := Lib.hid HB0.out.drew
                    generalize w5.drew = W1 at B2 ⊢
                    refine Segs.WP.val 0 rfl (some 41) (.pointer (some ⟨g5, 0, none⟩)) rfl (by kernel_rfl) (fun WW h => by kernel_rfl) ?_
                    simp only [Act.put, List.setIfInBounds_toArray, List.set_cons_zero, List.set_cons_succ]
                    refine Segs.WP.val 1 rfl (some 42) (.int .i64 (V.b)) rfl (by kernel_rfl) (fun WW h => Segs.run_cell 3 (.tmp 41) rfl g5 0 (by kernel_rfl) _ (isAggInt _) ((ST.out WW (B2.out.call h).1).2.2.2.1)) ?_
                    simp only [Act.put, List.setIfInBounds_toArray, List.set_cons_zero, List.set_cons_succ]
                    refine Segs.WP.val 2 rfl (some 43) (.bool false) rfl (by kernel_rfl) (fun WW h => run_lti rfl _ _ (by kernel_rfl) (by kernel_rfl) false K1.out) ?_
                    simp only [Act.put, List.setIfInBounds_toArray, List.set_cons_zero, List.set_cons_succ]
                    refine Segs.WP.val 3 rfl (some 44) (.bool false) rfl (by kernel_rfl) (fun WW h => by kernel_rfl) ?_
                    simp only [Act.put, List.setIfInBounds_toArray, List.set_cons_zero, List.set_cons_succ]
                    refine Segs.WP.val 4 rfl (some 45) (.int .i64 ((k : Int))) rfl (by kernel_rfl) (fun WW h => by kernel_rfl) ?_
                    simp only [Act.put, List.setIfInBounds_toArray, List.set_cons_zero, List.set_cons_succ]
                    refine Segs.WP.val 5 rfl (some 46) (.bool true) rfl (by kernel_rfl) (fun WW h => run_gti rfl _ _ (by kernel_rfl) (by kernel_rfl) true K0.out) ?_
                    simp only [Act.put, List.setIfInBounds_toArray, List.set_cons_zero, List.set_cons_succ]
                    refine Segs.WP.val 6 rfl (some 47) (.bool true) rfl (by kernel_rfl) (fun WW h => by kernel_rfl) ?_
                    simp only [Act.put, List.setIfInBounds_toArray, List.set_cons_zero, List.set_cons_succ]
                    refine Segs.WP.val 7 rfl (some 48) (.pointer (some ⟨g, 2, none⟩)) rfl (by kernel_rfl) (fun WW h => by kernel_rfl) ?_
                    simp only [Act.put, List.setIfInBounds_toArray, List.set_cons_zero, List.set_cons_succ]
                    refine Segs.WP.val 8 rfl (some 49) (.slice (some ⟨b, o, none⟩) z c) rfl (by kernel_rfl) (fun WW h => Segs.run_cell 35 (.tmp 48) rfl g 2 (by kernel_rfl) _ (isAggRows _) ((ST.out WW (B2.out.call h).1).2.2.1)) ?_
                    simp only [Act.put, List.setIfInBounds_toArray, List.set_cons_zero, List.set_cons_succ]
                    refine Segs.WP.val 9 rfl (some 50) (.int .i64 ((k : Int))) rfl (by kernel_rfl) (fun WW h => by kernel_rfl) ?_
                    simp only [Act.put, List.setIfInBounds_toArray, List.set_cons_zero, List.set_cons_succ]
                    refine Segs.WP.val 10 rfl (some 51) (.int .i64 ((kj : Int))) rfl (by kernel_rfl) (fun WW h => run_pred rfl k kj (by kernel_rfl) (by kernel_rfl) KJ.out KL.out) ?_
                    simp only [Act.put, List.setIfInBounds_toArray, List.set_cons_zero, List.set_cons_succ]
                    refine Segs.WP.val 11 rfl (some 52) (.pointer (some ⟨b, (o + kj * 4), none⟩)) rfl (by kernel_rfl) (fun WW h => run_indexK elemRV sizeRV rfl b o z c kj (by kernel_rfl) (by kernel_rfl) KN.out) ?_
                    simp only [Act.put, List.setIfInBounds_toArray, List.set_cons_zero, List.set_cons_succ]
                    refine Segs.WP.val 12 rfl (some 53) (.pointer (some ⟨b, (o + kj * 4), none⟩)) rfl (by kernel_rfl) (fun WW h => by kernel_rfl) ?_
                    simp only [Act.put, List.setIfInBounds_toArray, List.set_cons_zero, List.set_cons_succ]
                    refine Segs.WP.val 13 rfl (some 54) (.int .i64 (U.b)) rfl (by kernel_rfl) (fun WW h => Segs.run_cell 3 (.tmp 53) rfl b (o + kj * 4) (by kernel_rfl) _ (isAggInt _) (UC.out WW (bel_trans' BW5.out.1 (B2.out.call h).1))) ?_
                    simp only [Act.put, List.setIfInBounds_toArray, List.set_cons_zero, List.set_cons_succ]
                    refine Segs.WP.val 14 rfl (some 55) (.pointer (some ⟨g5, 0, none⟩)) rfl (by kernel_rfl) (fun WW h => by kernel_rfl) ?_
                    simp only [Act.put, List.setIfInBounds_toArray, List.set_cons_zero, List.set_cons_succ]
                    refine Segs.WP.val 15 rfl (some 56) (.int .i64 (V.b)) rfl (by kernel_rfl) (fun WW h => Segs.run_cell 3 (.tmp 55) rfl g5 0 (by kernel_rfl) _ (isAggInt _) ((ST.out WW (B2.out.call h).1).2.2.2.1)) ?_
                    simp only [Act.put, List.setIfInBounds_toArray, List.set_cons_zero, List.set_cons_succ]
                    refine Segs.WP.val 16 rfl (some 57) (.bool false) rfl (by kernel_rfl) (fun WW h => run_gei rfl _ _ (by kernel_rfl) (by kernel_rfl) false K2.out) ?_
                    simp only [Act.put, List.setIfInBounds_toArray, List.set_cons_zero, List.set_cons_succ]
                    refine Segs.WP.val 17 rfl (some 58) (.bool false) rfl (by kernel_rfl) (fun WW h => by kernel_rfl) ?_
                    simp only [Act.put, List.setIfInBounds_toArray, List.set_cons_zero, List.set_cons_succ]
                    refine Segs.WP.val 18 rfl (some 59) (.bool false) rfl (by kernel_rfl) (fun WW h => by kernel_rfl) ?_
                    simp only [Act.put, List.setIfInBounds_toArray, List.set_cons_zero, List.set_cons_succ]
                    refine Segs.WP.val 19 rfl (some 60) (.bool false) rfl (by kernel_rfl) (fun WW h => by kernel_rfl) ?_
                    simp only [Act.put, List.setIfInBounds_toArray, List.set_cons_zero, List.set_cons_succ]
                    refine Segs.WP.val 20 rfl (some 61) (.pointer (some ⟨g5, 1, none⟩)) rfl (by kernel_rfl) (fun WW h => by kernel_rfl) ?_
                    simp only [Act.put, List.setIfInBounds_toArray, List.set_cons_zero, List.set_cons_succ]
                    refine Segs.WP.val 21 rfl (some 62) (.slice Ae V.e.length ce) rfl (by kernel_rfl) (fun WW h => Segs.run_cell 43 (.tmp 61) rfl g5 1 (by kernel_rfl) _ (isAggEnts _) ((ST.out WW (B2.out.call h).1).2.2.2.2.1)) ?_
                    simp only [Act.put, List.setIfInBounds_toArray, List.set_cons_zero, List.set_cons_succ]
                    refine Segs.WP.call 22 rfl (some 63) 36 #[.slice Ae V.e.length ce] (.int .i64 (checkN V.e)) rfl (by kernel_rfl) (fun W => by kernel_rfl) (fun WW h => (CK.out WW (B2.out.call h).1)) ?_
                    simp only [Act.put, List.setIfInBounds_toArray, List.set_cons_zero, List.set_cons_succ]
                    refine Segs.WP.val 23 rfl (some 64) (.bool false) rfl (by kernel_rfl) (fun WW h => run_nee rfl _ _ (by kernel_rfl) (by kernel_rfl) false K3.out) ?_
                    simp only [Act.put, List.setIfInBounds_toArray, List.set_cons_zero, List.set_cons_succ]
                    refine Segs.WP.val 24 rfl (some 65) (.bool false) rfl (by kernel_rfl) (fun WW h => by kernel_rfl) ?_
                    simp only [Act.put, List.setIfInBounds_toArray, List.set_cons_zero, List.set_cons_succ]
                    refine Segs.WP.val 25 rfl (some 66) (.bool false) rfl (by kernel_rfl) (fun WW h => by kernel_rfl) ?_
                    simp only [Act.put, List.setIfInBounds_toArray, List.set_cons_zero, List.set_cons_succ]
                    refine Segs.WP.val 26 rfl (some 67) (.pointer (some ⟨g5, 3, none⟩)) rfl (by kernel_rfl) (fun WW h => by kernel_rfl) ?_
                    simp only [Act.put, List.setIfInBounds_toArray, List.set_cons_zero, List.set_cons_succ]
                    refine Segs.WP.val 27 rfl (some 68) (.int .i64 (V.p)) rfl (by kernel_rfl) (fun WW h => Segs.run_cell 3 (.tmp 67) rfl g5 3 (by kernel_rfl) _ (isAggInt _) ((ST.out WW (B2.out.call h).1).2.2.2.2.2.2)) ?_
                    simp only [Act.put, List.setIfInBounds_toArray, List.set_cons_zero, List.set_cons_succ]
                    refine Segs.WP.val 28 rfl (some 69) (.bool false) rfl (by kernel_rfl) (fun WW h => run_lti rfl _ _ (by kernel_rfl) (by kernel_rfl) false K4.out) ?_
                    simp only [Act.put, List.setIfInBounds_toArray, List.set_cons_zero, List.set_cons_succ]
                    refine Segs.WP.val 29 rfl (some 70) (.bool false) rfl (by kernel_rfl) (fun WW h => by kernel_rfl) ?_
                    simp only [Act.put, List.setIfInBounds_toArray, List.set_cons_zero, List.set_cons_succ]
                    refine Segs.WP.val 30 rfl (some 71) (.bool false) rfl (by kernel_rfl) (fun WW h => by kernel_rfl) ?_
                    simp only [Act.put, List.setIfInBounds_toArray, List.set_cons_zero, List.set_cons_succ]
                    refine Segs.WP.val 31 rfl (some 72) (.pointer (some ⟨g5, 3, none⟩)) rfl (by kernel_rfl) (fun WW h => by kernel_rfl) ?_
                    simp only [Act.put, List.setIfInBounds_toArray, List.set_cons_zero, List.set_cons_succ]
                    refine Segs.WP.val 32 rfl (some 73) (.int .i64 (V.p)) rfl (by kernel_rfl) (fun WW h => Segs.run_cell 3 (.tmp 72) rfl g5 3 (by kernel_rfl) _ (isAggInt _) ((ST.out WW (B2.out.call h).1).2.2.2.2.2.2)) ?_
                    simp only [Act.put, List.setIfInBounds_toArray, List.set_cons_zero, List.set_cons_succ]
                    refine Segs.WP.val 33 rfl (some 74) (.bool true) rfl (by kernel_rfl) (fun WW h => run_gti rfl _ _ (by kernel_rfl) (by kernel_rfl) true K5.out) ?_
                    simp only [Act.put, List.setIfInBounds_toArray, List.set_cons_zero, List.set_cons_succ]
                    refine Segs.WP.val 34 rfl (some 75) (.bool true) rfl (by kernel_rfl) (fun WW h => by kernel_rfl) ?_
                    simp only [Act.put, List.setIfInBounds_toArray, List.set_cons_zero, List.set_cons_succ]
                    refine Segs.WP.val 35 rfl (some 76) (.bool true) rfl (by kernel_rfl) (fun WW h => by kernel_rfl) ?_
                    simp only [Act.put, List.setIfInBounds_toArray, List.set_cons_zero, List.set_cons_succ]
                    refine Segs.WP.not 36 rfl (some 77) rfl (by kernel_rfl) ?_
                    simp only [Act.put, List.setIfInBounds_toArray, List.set_cons_zero, List.set_cons_succ]
                    refine Segs.WP.not 37 rfl (some 78) rfl (by kernel_rfl) ?_
                    simp only [Act.put, List.setIfInBounds_toArray, List.set_cons_zero, List.set_cons_succ]
                    refine Segs.WP.not 38 rfl (some 79) rfl (by kernel_rfl) ?_
                    simp only [Act.put, List.setIfInBounds_toArray, List.set_cons_zero, List.set_cons_succ]
                    refine Segs.WP.not 39 rfl (some 80) rfl (by kernel_rfl) ?_
                    simp only [Act.put, List.setIfInBounds_toArray, List.set_cons_zero, List.set_cons_succ]
                    refine Segs.WP.val 40 rfl (some 81) (.bool true) rfl (by kernel_rfl) (fun WW h => by kernel_rfl) ?_
                    simp only [Act.put, List.setIfInBounds_toArray, List.set_cons_zero, List.set_cons_succ]
                    refine Segs.WP.fin (fun W3 hx => ?_)
                    have B4 := Lib.hid (B2.out.call hx)
                    clear hx
                    go_wp2_with fail
                    go_ret
                    exact ⟨retB BD.out.symm, bel_trans' BB.out (BW5.out.call B4.out.1).1⟩
                  · have K5 : Hid (decide (V.p > 1048576) = false) := Lib.hid (decide_eq_false (t5))
                    rcases t6 : keptR M V with _ | _
                    · have BD : Hid (validM M = false) := Lib.hid (BADH.out (fun h => by have := h.2.2.2.2.2; rw [t6] at this; cases this))
                      rw [t6] at KP
                      clear t3 t6
                      have HB0 := Lib.hid (Bl.start w5)
                      refine Segs.wp_region_perm Segs.Hist [(0, false), (1, false), (2, false), (3, false), (4, false), (5, false), (6, false), (7, false), (8, false), (9, false), (10, false), (11, false), (12, false), (13, false), (14, false), (15, false), (16, false), (17, false), (18, false), (19, false), (20, false), (21, false), (22, false), (23, false), (24, false), (25, false), (26, false), (27, false), (28, false), (29, false), (30, false), (31, false), (32, false), (33, false), (34, false), (35, false), (36, false), (37, false), (38, false), (39, false), (40, false)] Segs.Hist.refl Segs.Hist.trans (by kernel_rfl) (by kernel_rfl) rfl (by kernel_rfl) (Segs.WP.out ?_)
                      have B2 := Lib.hid HB0.out.drew
                      generalize w5.drew = W1 at B2 ⊢
                      refine Segs.WP.val 0 rfl (some 41) (.pointer (some ⟨g5, 0, none⟩)) rfl (by kernel_rfl) (fun WW h => by kernel_rfl) ?_
                      simp only [Act.put, List.setIfInBounds_toArray, List.set_cons_zero, List.set_cons_succ]
                      refine Segs.WP.val 1 rfl (some 42) (.int .i64 (V.b)) rfl (by kernel_rfl) (fun WW h => Segs.run_cell 3 (.tmp 41) rfl g5 0 (by kernel_rfl) _ (isAggInt _) ((ST.out WW (B2.out.call h).1).2.2.2.1)) ?_
                      simp only [Act.put, List.setIfInBounds_toArray, List.set_cons_zero, List.set_cons_succ]
                      refine Segs.WP.val 2 rfl (some 43) (.bool false) rfl (by kernel_rfl) (fun WW h => run_lti rfl _ _ (by kernel_rfl) (by kernel_rfl) false K1.out) ?_
                      simp only [Act.put, List.setIfInBounds_toArray, List.set_cons_zero, List.set_cons_succ]
                      refine Segs.WP.val 3 rfl (some 44) (.bool false) rfl (by kernel_rfl) (fun WW h => by kernel_rfl) ?_
                      simp only [Act.put, List.setIfInBounds_toArray, List.set_cons_zero, List.set_cons_succ]
                      refine Segs.WP.val 4 rfl (some 45) (.int .i64 ((k : Int))) rfl (by kernel_rfl) (fun WW h => by kernel_rfl) ?_
                      simp only [Act.put, List.setIfInBounds_toArray, List.set_cons_zero, List.set_cons_succ]
                      refine Segs.WP.val 5 rfl (some 46) (.bool true) rfl (by kernel_rfl) (fun WW h => run_gti rfl _ _ (by kernel_rfl) (by kernel_rfl) true K0.out) ?_
                      simp only [Act.put, List.setIfInBounds_toArray, List.set_cons_zero, List.set_cons_succ]
                      refine Segs.WP.val 6 rfl (some 47) (.bool true) rfl (by kernel_rfl) (fun WW h => by kernel_rfl) ?_
                      simp only [Act.put, List.setIfInBounds_toArray, List.set_cons_zero, List.set_cons_succ]
                      refine Segs.WP.val 7 rfl (some 48) (.pointer (some ⟨g, 2, none⟩)) rfl (by kernel_rfl) (fun WW h => by kernel_rfl) ?_
                      simp only [Act.put, List.setIfInBounds_toArray, List.set_cons_zero, List.set_cons_succ]
                      refine Segs.WP.val 8 rfl (some 49) (.slice (some ⟨b, o, none⟩) z c) rfl (by kernel_rfl) (fun WW h => Segs.run_cell 35 (.tmp 48) rfl g 2 (by kernel_rfl) _ (isAggRows _) ((ST.out WW (B2.out.call h).1).2.2.1)) ?_
                      simp only [Act.put, List.setIfInBounds_toArray, List.set_cons_zero, List.set_cons_succ]
                      refine Segs.WP.val 9 rfl (some 50) (.int .i64 ((k : Int))) rfl (by kernel_rfl) (fun WW h => by kernel_rfl) ?_
                      simp only [Act.put, List.setIfInBounds_toArray, List.set_cons_zero, List.set_cons_succ]
                      refine Segs.WP.val 10 rfl (some 51) (.int .i64 ((kj : Int))) rfl (by kernel_rfl) (fun WW h => run_pred rfl k kj (by kernel_rfl) (by kernel_rfl) KJ.out KL.out) ?_
                      simp only [Act.put, List.setIfInBounds_toArray, List.set_cons_zero, List.set_cons_succ]
                      refine Segs.WP.val 11 rfl (some 52) (.pointer (some ⟨b, (o + kj * 4), none⟩)) rfl (by kernel_rfl) (fun WW h => run_indexK elemRV sizeRV rfl b o z c kj (by kernel_rfl) (by kernel_rfl) KN.out) ?_
                      simp only [Act.put, List.setIfInBounds_toArray, List.set_cons_zero, List.set_cons_succ]
                      refine Segs.WP.val 12 rfl (some 53) (.pointer (some ⟨b, (o + kj * 4), none⟩)) rfl (by kernel_rfl) (fun WW h => by kernel_rfl) ?_
                      simp only [Act.put, List.setIfInBounds_toArray, List.set_cons_zero, List.set_cons_succ]
                      refine Segs.WP.val 13 rfl (some 54) (.int .i64 (U.b)) rfl (by kernel_rfl) (fun WW h => Segs.run_cell 3 (.tmp 53) rfl b (o + kj * 4) (by kernel_rfl) _ (isAggInt _) (UC.out WW (bel_trans' BW5.out.1 (B2.out.call h).1))) ?_
                      simp only [Act.put, List.setIfInBounds_toArray, List.set_cons_zero, List.set_cons_succ]
                      refine Segs.WP.val 14 rfl (some 55) (.pointer (some ⟨g5, 0, none⟩)) rfl (by kernel_rfl) (fun WW h => by kernel_rfl) ?_
                      simp only [Act.put, List.setIfInBounds_toArray, List.set_cons_zero, List.set_cons_succ]
                      refine Segs.WP.val 15 rfl (some 56) (.int .i64 (V.b)) rfl (by kernel_rfl) (fun WW h => Segs.run_cell 3 (.tmp 55) rfl g5 0 (by kernel_rfl) _ (isAggInt _) ((ST.out WW (B2.out.call h).1).2.2.2.1)) ?_
                      simp only [Act.put, List.setIfInBounds_toArray, List.set_cons_zero, List.set_cons_succ]
                      refine Segs.WP.val 16 rfl (some 57) (.bool false) rfl (by kernel_rfl) (fun WW h => run_gei rfl _ _ (by kernel_rfl) (by kernel_rfl) false K2.out) ?_
                      simp only [Act.put, List.setIfInBounds_toArray, List.set_cons_zero, List.set_cons_succ]
                      refine Segs.WP.val 17 rfl (some 58) (.bool false) rfl (by kernel_rfl) (fun WW h => by kernel_rfl) ?_
                      simp only [Act.put, List.setIfInBounds_toArray, List.set_cons_zero, List.set_cons_succ]
                      refine Segs.WP.val 18 rfl (some 59) (.bool false) rfl (by kernel_rfl) (fun WW h => by kernel_rfl) ?_
                      simp only [Act.put, List.setIfInBounds_toArray, List.set_cons_zero, List.set_cons_succ]
                      refine Segs.WP.val 19 rfl (some 60) (.bool false) rfl (by kernel_rfl) (fun WW h => by kernel_rfl) ?_
                      simp only [Act.put, List.setIfInBounds_toArray, List.set_cons_zero, List.set_cons_succ]
                      refine Segs.WP.val 20 rfl (some 61) (.pointer (some ⟨g5, 1, none⟩)) rfl (by kernel_rfl) (fun WW h => by kernel_rfl) ?_
                      simp only [Act.put, List.setIfInBounds_toArray, List.set_cons_zero, List.set_cons_succ]
                      refine Segs.WP.val 21 rfl (some 62) (.slice Ae V.e.length ce) rfl (by kernel_rfl) (fun WW h => Segs.run_cell 43 (.tmp 61) rfl g5 1 (by kernel_rfl) _ (isAggEnts _) ((ST.out WW (B2.out.call h).1).2.2.2.2.1)) ?_
                      simp only [Act.put, List.setIfInBounds_toArray, List.set_cons_zero, List.set_cons_succ]
                      refine Segs.WP.call 22 rfl (some 63) 36 #[.slice Ae V.e.length ce] (.int .i64 (checkN V.e)) rfl (by kernel_rfl) (fun W => by kernel_rfl) (fun WW h => (CK.out WW (B2.out.call h).1)) ?_
                      simp only [Act.put, List.setIfInBounds_toArray, List.set_cons_zero, List.set_cons_succ]
                      refine Segs.WP.val 23 rfl (some 64) (.bool false) rfl (by kernel_rfl) (fun WW h => run_nee rfl _ _ (by kernel_rfl) (by kernel_rfl) false K3.out) ?_
                      simp only [Act.put, List.setIfInBounds_toArray, List.set_cons_zero, List.set_cons_succ]
                      refine Segs.WP.val 24 rfl (some 65) (.bool false) rfl (by kernel_rfl) (fun WW h => by kernel_rfl) ?_
                      simp only [Act.put, List.setIfInBounds_toArray, List.set_cons_zero, List.set_cons_succ]
                      refine Segs.WP.val 25 rfl (some 66) (.bool false) rfl (by kernel_rfl) (fun WW h => by kernel_rfl) ?_
                      simp only [Act.put, List.setIfInBounds_toArray, List.set_cons_zero, List.set_cons_succ]
                      refine Segs.WP.val 26 rfl (some 67) (.pointer (some ⟨g5, 3, none⟩)) rfl (by kernel_rfl) (fun WW h => by kernel_rfl) ?_
                      simp only [Act.put, List.setIfInBounds_toArray, List.set_cons_zero, List.set_cons_succ]
                      refine Segs.WP.val 27 rfl (some 68) (.int .i64 (V.p)) rfl (by kernel_rfl) (fun WW h => Segs.run_cell 3 (.tmp 67) rfl g5 3 (by kernel_rfl) _ (isAggInt _) ((ST.out WW (B2.out.call h).1).2.2.2.2.2.2)) ?_
                      simp only [Act.put, List.setIfInBounds_toArray, List.set_cons_zero, List.set_cons_succ]
                      refine Segs.WP.val 28 rfl (some 69) (.bool false) rfl (by kernel_rfl) (fun WW h => run_lti rfl _ _ (by kernel_rfl) (by kernel_rfl) false K4.out) ?_
                      simp only [Act.put, List.setIfInBounds_toArray, List.set_cons_zero, List.set_cons_succ]
                      refine Segs.WP.val 29 rfl (some 70) (.bool false) rfl (by kernel_rfl) (fun WW h => by kernel_rfl) ?_
                      simp only [Act.put, List.setIfInBounds_toArray, List.set_cons_zero, List.set_cons_succ]
                      refine Segs.WP.val 30 rfl (some 71) (.bool false) rfl (by kernel_rfl) (fun WW h => by kernel_rfl) ?_
                      simp only [Act.put, List.setIfInBounds_toArray, List.set_cons_zero, List.set_cons_succ]
                      refine Segs.WP.val 31 rfl (some 72) (.pointer (some ⟨g5, 3, none⟩)) rfl (by kernel_rfl) (fun WW h => by kernel_rfl) ?_
                      simp only [Act.put, List.setIfInBounds_toArray, List.set_cons_zero, List.set_cons_succ]
                      refine Segs.WP.val 32 rfl (some 73) (.int .i64 (V.p)) rfl (by kernel_rfl) (fun WW h => Segs.run_cell 3 (.tmp 72) rfl g5 3 (by kernel_rfl) _ (isAggInt _) ((ST.out WW (B2.out.call h).1).2.2.2.2.2.2)) ?_
                      simp only [Act.put, List.setIfInBounds_toArray, List.set_cons_zero, List.set_cons_succ]
                      refine Segs.WP.val 33 rfl (some 74) (.bool false) rfl (by kernel_rfl) (fun WW h => run_gti rfl _ _ (by kernel_rfl) (by kernel_rfl) false K5.out) ?_
                      simp only [Act.put, List.setIfInBounds_toArray, List.set_cons_zero, List.set_cons_succ]
                      refine Segs.WP.val 34 rfl (some 75) (.bool false) rfl (by kernel_rfl) (fun WW h => by kernel_rfl) ?_
                      simp only [Act.put, List.setIfInBounds_toArray, List.set_cons_zero, List.set_cons_succ]
                      refine Segs.WP.val 35 rfl (some 76) (.bool false) rfl (by kernel_rfl) (fun WW h => by kernel_rfl) ?_
                      simp only [Act.put, List.setIfInBounds_toArray, List.set_cons_zero, List.set_cons_succ]
                      refine Segs.WP.val 36 rfl (some 77) (.agg #[.int .i64 M.w, .int .i64 M.n, .slice (some ⟨b, o, none⟩) z c]) rfl (by kernel_rfl) (fun WW h => run_ldRM (.tmp 1) rfl g 0 (by kernel_rfl) _ _ _ (cells3 (ST.out WW (B2.out.call h).1).1 (ST.out WW (B2.out.call h).1).2.1 (ST.out WW (B2.out.call h).1).2.2.1)) ?_
                      simp only [Act.put, List.setIfInBounds_toArray, List.set_cons_zero, List.set_cons_succ]
                      refine Segs.WP.val 37 rfl (some 78) (.agg #[.int .i64 V.b, .slice Ae V.e.length ce, .slice Ac V.c.length cc, .int .i64 V.p]) rfl (by kernel_rfl) (fun WW h => run_ldRV (.tmp 4) rfl g5 0 (by kernel_rfl) _ _ _ _ (cells4 (ST.out WW (B2.out.call h).1).2.2.2.1 (ST.out WW (B2.out.call h).1).2.2.2.2.1 (ST.out WW (B2.out.call h).1).2.2.2.2.2.1 (ST.out WW (B2.out.call h).1).2.2.2.2.2.2)) ?_
                      simp only [Act.put, List.setIfInBounds_toArray, List.set_cons_zero, List.set_cons_succ]
                      refine Segs.WP.call 38 rfl (some 79) 37 #[.agg #[.int .i64 M.w, .int .i64 M.n, .slice (some ⟨b, o, none⟩) z c], .agg #[.int .i64 V.b, .slice Ae V.e.length ce, .slice Ac V.c.length cc, .int .i64 V.p]] (.bool false) rfl (by kernel_rfl) (fun W => by kernel_rfl) (fun WW h => (KP.out WW)) ?_
                      simp only [Act.put, List.setIfInBounds_toArray, List.set_cons_zero, List.set_cons_succ]
                      refine Segs.WP.val 39 rfl (some 80) (.bool true) rfl (by kernel_rfl) (fun WW h => by kernel_rfl) ?_
                      simp only [Act.put, List.setIfInBounds_toArray, List.set_cons_zero, List.set_cons_succ]
                      refine Segs.WP.val 40 rfl (some 81) (.bool true) rfl (by kernel_rfl) (fun WW h => by kernel_rfl) ?_
                      simp only [Act.put, List.setIfInBounds_toArray, List.set_cons_zero, List.set_cons_succ]
                      refine Segs.WP.fin (fun W3 hx => ?_)
                      have B4 := Lib.hid (B2.out.call hx)
                      clear hx
                      go_wp2_with fail
                      go_ret
                      exact ⟨retB BD.out.symm, bel_trans' BB.out (BW5.out.call B4.out.1).1⟩
                    · have GD := Lib.hid (GOODH.out ⟨by omega, fun i X e hX => by (obtain rfl : i = kj := by omega); rw [HU.out] at hX; cases hX; omega, t3, by omega, by omega, t6⟩)
                      rw [t6] at KP
                      clear t3 t6
                      have HB0 := Lib.hid (Bl.start w5)
                      refine Segs.wp_region_perm Segs.Hist [(0, false), (1, false), (2, false), (3, false), (4, false), (5, false), (6, false), (7, false), (8, false), (9, false), (10, false), (11, false), (12, false), (13, false), (14, false), (15, false), (16, false), (17, false), (18, false), (19, false), (20, false), (21, false), (22, false), (23, false), (24, false), (25, false), (26, false), (27, false), (28, false), (29, false), (30, false), (31, false), (32, false), (33, false), (34, false), (35, false), (36, false), (37, false), (38, false), (39, false), (40, false)] Segs.Hist.refl Segs.Hist.trans (by kernel_rfl) (by kernel_rfl) rfl (by kernel_rfl) (Segs.WP.out ?_)
                      have B2 := Lib.hid HB0.out.drew
                      generalize w5.drew = W1 at B2 ⊢
                      refine Segs.WP.val 0 rfl (some 41) (.pointer (some ⟨g5, 0, none⟩)) rfl (by kernel_rfl) (fun WW h => by kernel_rfl) ?_
                      simp only [Act.put, List.setIfInBounds_toArray, List.set_cons_zero, List.set_cons_succ]
                      refine Segs.WP.val 1 rfl (some 42) (.int .i64 (V.b)) rfl (by kernel_rfl) (fun WW h => Segs.run_cell 3 (.tmp 41) rfl g5 0 (by kernel_rfl) _ (isAggInt _) ((ST.out WW (B2.out.call h).1).2.2.2.1)) ?_
                      simp only [Act.put, List.setIfInBounds_toArray, List.set_cons_zero, List.set_cons_succ]
                      refine Segs.WP.val 2 rfl (some 43) (.bool false) rfl (by kernel_rfl) (fun WW h => run_lti rfl _ _ (by kernel_rfl) (by kernel_rfl) false K1.out) ?_
                      simp only [Act.put, List.setIfInBounds_toArray, List.set_cons_zero, List.set_cons_succ]
                      refine Segs.WP.val 3 rfl (some 44) (.bool false) rfl (by kernel_rfl) (fun WW h => by kernel_rfl) ?_
                      simp only [Act.put, List.setIfInBounds_toArray, List.set_cons_zero, List.set_cons_succ]
                      refine Segs.WP.val 4 rfl (some 45) (.int .i64 ((k : Int))) rfl (by kernel_rfl) (fun WW h => by kernel_rfl) ?_
                      simp only [Act.put, List.setIfInBounds_toArray, List.set_cons_zero, List.set_cons_succ]
                      refine Segs.WP.val 5 rfl (some 46) (.bool true) rfl (by kernel_rfl) (fun WW h => run_gti rfl _ _ (by kernel_rfl) (by kernel_rfl) true K0.out) ?_
                      simp only [Act.put, List.setIfInBounds_toArray, List.set_cons_zero, List.set_cons_succ]
                      refine Segs.WP.val 6 rfl (some 47) (.bool true) rfl (by kernel_rfl) (fun WW h => by kernel_rfl) ?_
                      simp only [Act.put, List.setIfInBounds_toArray, List.set_cons_zero, List.set_cons_succ]
                      refine Segs.WP.val 7 rfl (some 48) (.pointer (some ⟨g, 2, none⟩)) rfl (by kernel_rfl) (fun WW h => by kernel_rfl) ?_
                      simp only [Act.put, List.setIfInBounds_toArray, List.set_cons_zero, List.set_cons_succ]
                      refine Segs.WP.val 8 rfl (some 49) (.slice (some ⟨b, o, none⟩) z c) rfl (by kernel_rfl) (fun WW h => Segs.run_cell 35 (.tmp 48) rfl g 2 (by kernel_rfl) _ (isAggRows _) ((ST.out WW (B2.out.call h).1).2.2.1)) ?_
                      simp only [Act.put, List.setIfInBounds_toArray, List.set_cons_zero, List.set_cons_succ]
                      refine Segs.WP.val 9 rfl (some 50) (.int .i64 ((k : Int))) rfl (by kernel_rfl) (fun WW h => by kernel_rfl) ?_
                      simp only [Act.put, List.setIfInBounds_toArray, List.set_cons_zero, List.set_cons_succ]
                      refine Segs.WP.val 10 rfl (some 51) (.int .i64 ((kj : Int))) rfl (by kernel_rfl) (fun WW h => run_pred rfl k kj (by kernel_rfl) (by kernel_rfl) KJ.out KL.out) ?_
                      simp only [Act.put, List.setIfInBounds_toArray, List.set_cons_zero, List.set_cons_succ]
                      refine Segs.WP.val 11 rfl (some 52) (.pointer (some ⟨b, (o + kj * 4), none⟩)) rfl (by kernel_rfl) (fun WW h => run_indexK elemRV sizeRV rfl b o z c kj (by kernel_rfl) (by kernel_rfl) KN.out) ?_
                      simp only [Act.put, List.setIfInBounds_toArray, List.set_cons_zero, List.set_cons_succ]
                      refine Segs.WP.val 12 rfl (some 53) (.pointer (some ⟨b, (o + kj * 4), none⟩)) rfl (by kernel_rfl) (fun WW h => by kernel_rfl) ?_
                      simp only [Act.put, List.setIfInBounds_toArray, List.set_cons_zero, List.set_cons_succ]
                      refine Segs.WP.val 13 rfl (some 54) (.int .i64 (U.b)) rfl (by kernel_rfl) (fun WW h => Segs.run_cell 3 (.tmp 53) rfl b (o + kj * 4) (by kernel_rfl) _ (isAggInt _) (UC.out WW (bel_trans' BW5.out.1 (B2.out.call h).1))) ?_
                      simp only [Act.put, List.setIfInBounds_toArray, List.set_cons_zero, List.set_cons_succ]
                      refine Segs.WP.val 14 rfl (some 55) (.pointer (some ⟨g5, 0, none⟩)) rfl (by kernel_rfl) (fun WW h => by kernel_rfl) ?_
                      simp only [Act.put, List.setIfInBounds_toArray, List.set_cons_zero, List.set_cons_succ]
                      refine Segs.WP.val 15 rfl (some 56) (.int .i64 (V.b)) rfl (by kernel_rfl) (fun WW h => Segs.run_cell 3 (.tmp 55) rfl g5 0 (by kernel_rfl) _ (isAggInt _) ((ST.out WW (B2.out.call h).1).2.2.2.1)) ?_
                      simp only [Act.put, List.setIfInBounds_toArray, List.set_cons_zero, List.set_cons_succ]
                      refine Segs.WP.val 16 rfl (some 57) (.bool false) rfl (by kernel_rfl) (fun WW h => run_gei rfl _ _ (by kernel_rfl) (by kernel_rfl) false K2.out) ?_
                      simp only [Act.put, List.setIfInBounds_toArray, List.set_cons_zero, List.set_cons_succ]
                      refine Segs.WP.val 17 rfl (some 58) (.bool false) rfl (by kernel_rfl) (fun WW h => by kernel_rfl) ?_
                      simp only [Act.put, List.setIfInBounds_toArray, List.set_cons_zero, List.set_cons_succ]
                      refine Segs.WP.val 18 rfl (some 59) (.bool false) rfl (by kernel_rfl) (fun WW h => by kernel_rfl) ?_
                      simp only [Act.put, List.setIfInBounds_toArray, List.set_cons_zero, List.set_cons_succ]
                      refine Segs.WP.val 19 rfl (some 60) (.bool false) rfl (by kernel_rfl) (fun WW h => by kernel_rfl) ?_
                      simp only [Act.put, List.setIfInBounds_toArray, List.set_cons_zero, List.set_cons_succ]
                      refine Segs.WP.val 20 rfl (some 61) (.pointer (some ⟨g5, 1, none⟩)) rfl (by kernel_rfl) (fun WW h => by kernel_rfl) ?_
                      simp only [Act.put, List.setIfInBounds_toArray, List.set_cons_zero, List.set_cons_succ]
                      refine Segs.WP.val 21 rfl (some 62) (.slice Ae V.e.length ce) rfl (by kernel_rfl) (fun WW h => Segs.run_cell 43 (.tmp 61) rfl g5 1 (by kernel_rfl) _ (isAggEnts _) ((ST.out WW (B2.out.call h).1).2.2.2.2.1)) ?_
                      simp only [Act.put, List.setIfInBounds_toArray, List.set_cons_zero, List.set_cons_succ]
                      refine Segs.WP.call 22 rfl (some 63) 36 #[.slice Ae V.e.length ce] (.int .i64 (checkN V.e)) rfl (by kernel_rfl) (fun W => by kernel_rfl) (fun WW h => (CK.out WW (B2.out.call h).1)) ?_
                      simp only [Act.put, List.setIfInBounds_toArray, List.set_cons_zero, List.set_cons_succ]
                      refine Segs.WP.val 23 rfl (some 64) (.bool false) rfl (by kernel_rfl) (fun WW h => run_nee rfl _ _ (by kernel_rfl) (by kernel_rfl) false K3.out) ?_
                      simp only [Act.put, List.setIfInBounds_toArray, List.set_cons_zero, List.set_cons_succ]
                      refine Segs.WP.val 24 rfl (some 65) (.bool false) rfl (by kernel_rfl) (fun WW h => by kernel_rfl) ?_
                      simp only [Act.put, List.setIfInBounds_toArray, List.set_cons_zero, List.set_cons_succ]
                      refine Segs.WP.val 25 rfl (some 66) (.bool false) rfl (by kernel_rfl) (fun WW h => by kernel_rfl) ?_
                      simp only [Act.put, List.setIfInBounds_toArray, List.set_cons_zero, List.set_cons_succ]
                      refine Segs.WP.val 26 rfl (some 67) (.pointer (some ⟨g5, 3, none⟩)) rfl (by kernel_rfl) (fun WW h => by kernel_rfl) ?_
                      simp only [Act.put, List.setIfInBounds_toArray, List.set_cons_zero, List.set_cons_succ]
                      refine Segs.WP.val 27 rfl (some 68) (.int .i64 (V.p)) rfl (by kernel_rfl) (fun WW h => Segs.run_cell 3 (.tmp 67) rfl g5 3 (by kernel_rfl) _ (isAggInt _) ((ST.out WW (B2.out.call h).1).2.2.2.2.2.2)) ?_
                      simp only [Act.put, List.setIfInBounds_toArray, List.set_cons_zero, List.set_cons_succ]
                      refine Segs.WP.val 28 rfl (some 69) (.bool false) rfl (by kernel_rfl) (fun WW h => run_lti rfl _ _ (by kernel_rfl) (by kernel_rfl) false K4.out) ?_
                      simp only [Act.put, List.setIfInBounds_toArray, List.set_cons_zero, List.set_cons_succ]
                      refine Segs.WP.val 29 rfl (some 70) (.bool false) rfl (by kernel_rfl) (fun WW h => by kernel_rfl) ?_
                      simp only [Act.put, List.setIfInBounds_toArray, List.set_cons_zero, List.set_cons_succ]
                      refine Segs.WP.val 30 rfl (some 71) (.bool false) rfl (by kernel_rfl) (fun WW h => by kernel_rfl) ?_
                      simp only [Act.put, List.setIfInBounds_toArray, List.set_cons_zero, List.set_cons_succ]
                      refine Segs.WP.val 31 rfl (some 72) (.pointer (some ⟨g5, 3, none⟩)) rfl (by kernel_rfl) (fun WW h => by kernel_rfl) ?_
                      simp only [Act.put, List.setIfInBounds_toArray, List.set_cons_zero, List.set_cons_succ]
                      refine Segs.WP.val 32 rfl (some 73) (.int .i64 (V.p)) rfl (by kernel_rfl) (fun WW h => Segs.run_cell 3 (.tmp 72) rfl g5 3 (by kernel_rfl) _ (isAggInt _) ((ST.out WW (B2.out.call h).1).2.2.2.2.2.2)) ?_
                      simp only [Act.put, List.setIfInBounds_toArray, List.set_cons_zero, List.set_cons_succ]
                      refine Segs.WP.val 33 rfl (some 74) (.bool false) rfl (by kernel_rfl) (fun WW h => run_gti rfl _ _ (by kernel_rfl) (by kernel_rfl) false K5.out) ?_
                      simp only [Act.put, List.setIfInBounds_toArray, List.set_cons_zero, List.set_cons_succ]
                      refine Segs.WP.val 34 rfl (some 75) (.bool false) rfl (by kernel_rfl) (fun WW h => by kernel_rfl) ?_
                      simp only [Act.put, List.setIfInBounds_toArray, List.set_cons_zero, List.set_cons_succ]
                      refine Segs.WP.val 35 rfl (some 76) (.bool false) rfl (by kernel_rfl) (fun WW h => by kernel_rfl) ?_
                      simp only [Act.put, List.setIfInBounds_toArray, List.set_cons_zero, List.set_cons_succ]
                      refine Segs.WP.val 36 rfl (some 77) (.agg #[.int .i64 M.w, .int .i64 M.n, .slice (some ⟨b, o, none⟩) z c]) rfl (by kernel_rfl) (fun WW h => run_ldRM (.tmp 1) rfl g 0 (by kernel_rfl) _ _ _ (cells3 (ST.out WW (B2.out.call h).1).1 (ST.out WW (B2.out.call h).1).2.1 (ST.out WW (B2.out.call h).1).2.2.1)) ?_
                      simp only [Act.put, List.setIfInBounds_toArray, List.set_cons_zero, List.set_cons_succ]
                      refine Segs.WP.val 37 rfl (some 78) (.agg #[.int .i64 V.b, .slice Ae V.e.length ce, .slice Ac V.c.length cc, .int .i64 V.p]) rfl (by kernel_rfl) (fun WW h => run_ldRV (.tmp 4) rfl g5 0 (by kernel_rfl) _ _ _ _ (cells4 (ST.out WW (B2.out.call h).1).2.2.2.1 (ST.out WW (B2.out.call h).1).2.2.2.2.1 (ST.out WW (B2.out.call h).1).2.2.2.2.2.1 (ST.out WW (B2.out.call h).1).2.2.2.2.2.2)) ?_
                      simp only [Act.put, List.setIfInBounds_toArray, List.set_cons_zero, List.set_cons_succ]
                      refine Segs.WP.call 38 rfl (some 79) 37 #[.agg #[.int .i64 M.w, .int .i64 M.n, .slice (some ⟨b, o, none⟩) z c], .agg #[.int .i64 V.b, .slice Ae V.e.length ce, .slice Ac V.c.length cc, .int .i64 V.p]] (.bool true) rfl (by kernel_rfl) (fun W => by kernel_rfl) (fun WW h => (KP.out WW)) ?_
                      simp only [Act.put, List.setIfInBounds_toArray, List.set_cons_zero, List.set_cons_succ]
                      refine Segs.WP.val 39 rfl (some 80) (.bool false) rfl (by kernel_rfl) (fun WW h => by kernel_rfl) ?_
                      simp only [Act.put, List.setIfInBounds_toArray, List.set_cons_zero, List.set_cons_succ]
                      refine Segs.WP.val 40 rfl (some 81) (.bool false) rfl (by kernel_rfl) (fun WW h => by kernel_rfl) ?_
                      simp only [Act.put, List.setIfInBounds_toArray, List.set_cons_zero, List.set_cons_succ]
                      refine Segs.WP.fin (fun W3 hx => ?_)
                      have B4 := Lib.hid (B2.out.call hx)
                      clear hx
                      obtain ⟨wz, hwz⟩ : ∃ z, z = W3 := ⟨_, rfl⟩
                      have BZ := Lib.hid (BW5.out.call B4.out.1)
                      rw [← hwz] at BZ ⊢
                      clear hwz
                      go_wp2_with fail
                      exact ⟨⟨k + 1, by go_num, by omega, GD, BZ⟩, by simp [intOf]; omega⟩
              · have K3 : Hid (decide (¬ checkN V.e = 0) = true) := Lib.hid (decide_eq_true t3)
                have BD : Hid (validM M = false) := Lib.hid (BADH.out (fun h => t3 h.2.2.1))
                clear t3
                have HB0 := Lib.hid (Bl.start w5)
                refine Segs.wp_region_perm Segs.Hist [(0, false), (1, false), (2, false), (3, false), (4, false), (5, false), (6, false), (7, false), (8, false), (9, false), (10, false), (11, false), (12, false), (13, false), (14, false), (15, false), (16, false), (17, false), (18, false), (19, false), (20, false), (21, false), (22, false), (23, false), (24, false), (25, false), (26, false), (27, false), (28, false), (29, false), (30, false), (31, false), (32, false), (33, false), (34, false), (35, false), (36, false), (37, false), (38, false), (39, false), (40, false)] Segs.Hist.refl Segs.Hist.trans (by kernel_rfl) (by kernel_rfl) rfl (by kernel_rfl) (Segs.WP.out ?_)
                have B2 := Lib.hid HB0.out.drew
                generalize w5.drew = W1 at B2 ⊢
                refine Segs.WP.val 0 rfl (some 41) (.pointer (some ⟨g5, 0, none⟩)) rfl (by kernel_rfl) (fun WW h => by kernel_rfl) ?_
                simp only [Act.put, List.setIfInBounds_toArray, List.set_cons_zero, List.set_cons_succ]
                refine Segs.WP.val 1 rfl (some 42) (.int .i64 (V.b)) rfl (by kernel_rfl) (fun WW h => Segs.run_cell 3 (.tmp 41) rfl g5 0 (by kernel_rfl) _ (isAggInt _) ((ST.out WW (B2.out.call h).1).2.2.2.1)) ?_
                simp only [Act.put, List.setIfInBounds_toArray, List.set_cons_zero, List.set_cons_succ]
                refine Segs.WP.val 2 rfl (some 43) (.bool false) rfl (by kernel_rfl) (fun WW h => run_lti rfl _ _ (by kernel_rfl) (by kernel_rfl) false K1.out) ?_
                simp only [Act.put, List.setIfInBounds_toArray, List.set_cons_zero, List.set_cons_succ]
                refine Segs.WP.val 3 rfl (some 44) (.bool false) rfl (by kernel_rfl) (fun WW h => by kernel_rfl) ?_
                simp only [Act.put, List.setIfInBounds_toArray, List.set_cons_zero, List.set_cons_succ]
                refine Segs.WP.val 4 rfl (some 45) (.int .i64 ((k : Int))) rfl (by kernel_rfl) (fun WW h => by kernel_rfl) ?_
                simp only [Act.put, List.setIfInBounds_toArray, List.set_cons_zero, List.set_cons_succ]
                refine Segs.WP.val 5 rfl (some 46) (.bool true) rfl (by kernel_rfl) (fun WW h => run_gti rfl _ _ (by kernel_rfl) (by kernel_rfl) true K0.out) ?_
                simp only [Act.put, List.setIfInBounds_toArray, List.set_cons_zero, List.set_cons_succ]
                refine Segs.WP.val 6 rfl (some 47) (.bool true) rfl (by kernel_rfl) (fun WW h => by kernel_rfl) ?_
                simp only [Act.put, List.setIfInBounds_toArray, List.set_cons_zero, List.set_cons_succ]
                refine Segs.WP.val 7 rfl (some 48) (.pointer (some ⟨g, 2, none⟩)) rfl (by kernel_rfl) (fun WW h => by kernel_rfl) ?_
                simp only [Act.put, List.setIfInBounds_toArray, List.set_cons_zero, List.set_cons_succ]
                refine Segs.WP.val 8 rfl (some 49) (.slice (some ⟨b, o, none⟩) z c) rfl (by kernel_rfl) (fun WW h => Segs.run_cell 35 (.tmp 48) rfl g 2 (by kernel_rfl) _ (isAggRows _) ((ST.out WW (B2.out.call h).1).2.2.1)) ?_
                simp only [Act.put, List.setIfInBounds_toArray, List.set_cons_zero, List.set_cons_succ]
                refine Segs.WP.val 9 rfl (some 50) (.int .i64 ((k : Int))) rfl (by kernel_rfl) (fun WW h => by kernel_rfl) ?_
                simp only [Act.put, List.setIfInBounds_toArray, List.set_cons_zero, List.set_cons_succ]
                refine Segs.WP.val 10 rfl (some 51) (.int .i64 ((kj : Int))) rfl (by kernel_rfl) (fun WW h => run_pred rfl k kj (by kernel_rfl) (by kernel_rfl) KJ.out KL.out) ?_
                simp only [Act.put, List.setIfInBounds_toArray, List.set_cons_zero, List.set_cons_succ]
                refine Segs.WP.val 11 rfl (some 52) (.pointer (some ⟨b, (o + kj * 4), none⟩)) rfl (by kernel_rfl) (fun WW h => run_indexK elemRV sizeRV rfl b o z c kj (by kernel_rfl) (by kernel_rfl) KN.out) ?_
                simp only [Act.put, List.setIfInBounds_toArray, List.set_cons_zero, List.set_cons_succ]
                refine Segs.WP.val 12 rfl (some 53) (.pointer (some ⟨b, (o + kj * 4), none⟩)) rfl (by kernel_rfl) (fun WW h => by kernel_rfl) ?_
                simp only [Act.put, List.setIfInBounds_toArray, List.set_cons_zero, List.set_cons_succ]
                refine Segs.WP.val 13 rfl (some 54) (.int .i64 (U.b)) rfl (by kernel_rfl) (fun WW h => Segs.run_cell 3 (.tmp 53) rfl b (o + kj * 4) (by kernel_rfl) _ (isAggInt _) (UC.out WW (bel_trans' BW5.out.1 (B2.out.call h).1))) ?_
                simp only [Act.put, List.setIfInBounds_toArray, List.set_cons_zero, List.set_cons_succ]
                refine Segs.WP.val 14 rfl (some 55) (.pointer (some ⟨g5, 0, none⟩)) rfl (by kernel_rfl) (fun WW h => by kernel_rfl) ?_
                simp only [Act.put, List.setIfInBounds_toArray, List.set_cons_zero, List.set_cons_succ]
                refine Segs.WP.val 15 rfl (some 56) (.int .i64 (V.b)) rfl (by kernel_rfl) (fun WW h => Segs.run_cell 3 (.tmp 55) rfl g5 0 (by kernel_rfl) _ (isAggInt _) ((ST.out WW (B2.out.call h).1).2.2.2.1)) ?_
                simp only [Act.put, List.setIfInBounds_toArray, List.set_cons_zero, List.set_cons_succ]
                refine Segs.WP.val 16 rfl (some 57) (.bool false) rfl (by kernel_rfl) (fun WW h => run_gei rfl _ _ (by kernel_rfl) (by kernel_rfl) false K2.out) ?_
                simp only [Act.put, List.setIfInBounds_toArray, List.set_cons_zero, List.set_cons_succ]
                refine Segs.WP.val 17 rfl (some 58) (.bool false) rfl (by kernel_rfl) (fun WW h => by kernel_rfl) ?_
                simp only [Act.put, List.setIfInBounds_toArray, List.set_cons_zero, List.set_cons_succ]
                refine Segs.WP.val 18 rfl (some 59) (.bool false) rfl (by kernel_rfl) (fun WW h => by kernel_rfl) ?_
                simp only [Act.put, List.setIfInBounds_toArray, List.set_cons_zero, List.set_cons_succ]
                refine Segs.WP.val 19 rfl (some 60) (.bool false) rfl (by kernel_rfl) (fun WW h => by kernel_rfl) ?_
                simp only [Act.put, List.setIfInBounds_toArray, List.set_cons_zero, List.set_cons_succ]
                refine Segs.WP.val 20 rfl (some 61) (.pointer (some ⟨g5, 1, none⟩)) rfl (by kernel_rfl) (fun WW h => by kernel_rfl) ?_
                simp only [Act.put, List.setIfInBounds_toArray, List.set_cons_zero, List.set_cons_succ]
                refine Segs.WP.val 21 rfl (some 62) (.slice Ae V.e.length ce) rfl (by kernel_rfl) (fun WW h => Segs.run_cell 43 (.tmp 61) rfl g5 1 (by kernel_rfl) _ (isAggEnts _) ((ST.out WW (B2.out.call h).1).2.2.2.2.1)) ?_
                simp only [Act.put, List.setIfInBounds_toArray, List.set_cons_zero, List.set_cons_succ]
                refine Segs.WP.call 22 rfl (some 63) 36 #[.slice Ae V.e.length ce] (.int .i64 (checkN V.e)) rfl (by kernel_rfl) (fun W => by kernel_rfl) (fun WW h => (CK.out WW (B2.out.call h).1)) ?_
                simp only [Act.put, List.setIfInBounds_toArray, List.set_cons_zero, List.set_cons_succ]
                refine Segs.WP.val 23 rfl (some 64) (.bool true) rfl (by kernel_rfl) (fun WW h => run_nee rfl _ _ (by kernel_rfl) (by kernel_rfl) true K3.out) ?_
                simp only [Act.put, List.setIfInBounds_toArray, List.set_cons_zero, List.set_cons_succ]
                refine Segs.WP.val 24 rfl (some 65) (.bool true) rfl (by kernel_rfl) (fun WW h => by kernel_rfl) ?_
                simp only [Act.put, List.setIfInBounds_toArray, List.set_cons_zero, List.set_cons_succ]
                refine Segs.WP.val 25 rfl (some 66) (.bool true) rfl (by kernel_rfl) (fun WW h => by kernel_rfl) ?_
                simp only [Act.put, List.setIfInBounds_toArray, List.set_cons_zero, List.set_cons_succ]
                refine Segs.WP.not 26 rfl (some 67) rfl (by kernel_rfl) ?_
                simp only [Act.put, List.setIfInBounds_toArray, List.set_cons_zero, List.set_cons_succ]
                refine Segs.WP.not 27 rfl (some 68) rfl (by kernel_rfl) ?_
                simp only [Act.put, List.setIfInBounds_toArray, List.set_cons_zero, List.set_cons_succ]
                refine Segs.WP.not 28 rfl (some 69) rfl (by kernel_rfl) ?_
                simp only [Act.put, List.setIfInBounds_toArray, List.set_cons_zero, List.set_cons_succ]
                refine Segs.WP.val 29 rfl (some 70) (.bool true) rfl (by kernel_rfl) (fun WW h => by kernel_rfl) ?_
                simp only [Act.put, List.setIfInBounds_toArray, List.set_cons_zero, List.set_cons_succ]
                refine Segs.WP.val 30 rfl (some 71) (.bool true) rfl (by kernel_rfl) (fun WW h => by kernel_rfl) ?_
                simp only [Act.put, List.setIfInBounds_toArray, List.set_cons_zero, List.set_cons_succ]
                refine Segs.WP.not 31 rfl (some 72) rfl (by kernel_rfl) ?_
                simp only [Act.put, List.setIfInBounds_toArray, List.set_cons_zero, List.set_cons_succ]
                refine Segs.WP.not 32 rfl (some 73) rfl (by kernel_rfl) ?_
                simp only [Act.put, List.setIfInBounds_toArray, List.set_cons_zero, List.set_cons_succ]
                refine Segs.WP.not 33 rfl (some 74) rfl (by kernel_rfl) ?_
                simp only [Act.put, List.setIfInBounds_toArray, List.set_cons_zero, List.set_cons_succ]
                refine Segs.WP.val 34 rfl (some 75) (.bool true) rfl (by kernel_rfl) (fun WW h => by kernel_rfl) ?_
                simp only [Act.put, List.setIfInBounds_toArray, List.set_cons_zero, List.set_cons_succ]
                refine Segs.WP.val 35 rfl (some 76) (.bool true) rfl (by kernel_rfl) (fun WW h => by kernel_rfl) ?_
                simp only [Act.put, List.setIfInBounds_toArray, List.set_cons_zero, List.set_cons_succ]
                refine Segs.WP.not 36 rfl (some 77) rfl (by kernel_rfl) ?_
                simp only [Act.put, List.setIfInBounds_toArray, List.set_cons_zero, List.set_cons_succ]
                refine Segs.WP.not 37 rfl (some 78) rfl (by kernel_rfl) ?_
                simp only [Act.put, List.setIfInBounds_toArray, List.set_cons_zero, List.set_cons_succ]
                refine Segs.WP.not 38 rfl (some 79) rfl (by kernel_rfl) ?_
                simp only [Act.put, List.setIfInBounds_toArray, List.set_cons_zero, List.set_cons_succ]
                refine Segs.WP.not 39 rfl (some 80) rfl (by kernel_rfl) ?_
                simp only [Act.put, List.setIfInBounds_toArray, List.set_cons_zero, List.set_cons_succ]
                refine Segs.WP.val 40 rfl (some 81) (.bool true) rfl (by kernel_rfl) (fun WW h => by kernel_rfl) ?_
                simp only [Act.put, List.setIfInBounds_toArray, List.set_cons_zero, List.set_cons_succ]
                refine Segs.WP.fin (fun W3 hx => ?_)
                have B4 := Lib.hid (B2.out.call hx)
                clear hx
                go_wp2_with fail
                go_ret
                exact ⟨retB BD.out.symm, bel_trans' BB.out (BW5.out.call B4.out.1).1⟩
      · have i1 : ¬ (k : Int) < (z : Int) := by omega
        obtain rfl : k = z := by omega
        have VD : Hid (validM M = decide (lastB (-1) M.all = M.n - 1)) := Lib.hid (valid_of_fine HRT.out (fun j V hV => HF.out j V (by have := (List.getElem?_eq_some_iff.1 hV).1; have := HZ.out; omega) hV))
        obtain ⟨m, hm⟩ : ∃ m, k = m + 1 := ⟨k - 1, by omega⟩
        obtain ⟨V, hV⟩ : ∃ V, M.all[m]? = some V := ⟨_, List.getElem?_eq_getElem (by rw [← HZ.out]; omega)⟩
        have LB : Hid (lastB (-1) M.all = V.b) := Lib.hid (lastB_get (by rw [← HZ.out]; exact hm) hV)
        obtain ⟨b, o, c', ve, vc, hv, hbl, he, hc, d0, d1, d2, d3⟩ := (V1.out.below BW.out.1).at_ hV
        rw [← HZ.out] at hv
        simp only [Value.slice.injEq] at hv
        obtain ⟨rfl, -, rfl⟩ := hv
        have wm : IntKind.i64.wrap ((k : Int) - 1) = (m : Int) := by rw [show (k : Int) - 1 = (m : Int) by omega]; exact IntWalk.i64_in _ (by omega)
        have jm : (m : Int) < (k : Int) := by omega
        clear hm hV he hc
        by_cases hlb : V.b = M.n - 1
        · have lb1 : (V.b == M.n - 1) = true := beq_iff_eq.2 hlb
          have FIN : Hid (validM M = true) := Lib.hid (by rw [VD.out, LB.out, decide_eq_true hlb])
          clear hlb
          go_wp2_with fail
          go_quiet (fail)
          go_wp2_with fail
          go_ret
          exact ⟨retB FIN.out.symm, bel_trans' BB.out ((BW.out.drewN _).1)⟩
        · have lb1 : (V.b == M.n - 1) = false := beq_eq_false_iff_ne.2 hlb
          have FIN : Hid (validM M = false) := Lib.hid (by rw [VD.out, LB.out, decide_eq_false hlb])
          clear hlb
          go_wp2_with fail
          go_quiet (fail)
          go_wp2_with fail
          go_ret
          exact ⟨retB FIN.out.symm, bel_trans' BB.out ((BW.out.drewN _).1)⟩
end Go.Proofs.Ytdahhnefcageeaa

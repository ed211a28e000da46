/-
  Merged: MdlCheck, MdlDif, MdlMap.
-/
import Derived.Test.YtfeonjiiijdibaaGreatDoorGaMdA
import Derived.Test.YtfeonjiiijdibaaGreatDoorGaRun
import Derived.Deep.Cut
import Derived.Deep.RegionHeld3
import Derived.Maps.Own
import Derived.Maps.OwnOps
import Derived.Maps.OwnSet
import Derived.Maps.Views
import Derived.Maps.RangeWalk
import Derived.StringKeys
namespace Go.Proofs.Mdl
theorem adj_bad {l : List Ent} {k : Nat} {x : Ent} (hx : l[k]? = some x) (h : ¬ (entOk x = true ∧ ∀ i (y : Ent), k = i + 1 → l[i]? = some y → ltB y.k x.k = true)) : adj l = false := by
  rw [Bool.eq_false_iff]
  intro ha
  exact h ((adj_iff l).1 ha k x hx)
end Go.Proofs.Mdl
namespace Go.Proofs.YtfeonjiiijdibaaGreatDoor
open Go.RowKit Go.Proofs.Mdl
set_option linter.unusedVariables false
set_option linter.unusedSimpArgs false
theorem sizeEnt (W : World) : (sizeOf 61).run Tryz.prog W = .ok 2 W := by kernel_rfl
theorem sizeChg (W : World) : (sizeOf 58).run Tryz.prog W = .ok 3 W := by kernel_rfl
theorem run_predF {o : Oper} {a : Act} {W : World} {x y : Operand} (ho : o.op = .binOp .sub 3 x y 3) (l m : Nat) (hx : a.eval x = .int .i64 (l : Int)) (hy : a.eval y = .int .i64 1) (hl : l = m + 1) (hm : l ≤ 9223372036854775807) :
    (execOp a.eval o).run Tryz.prog W = .ok (.value (.int .i64 (m : Int))) W := by
  unfold execOp
  simp only [ho, hx, hy]
  have h : (IntKind.i64.wrap ((l : Int) - 1)) = (m : Int) := by
    rw [show (l : Int) - 1 = (m : Int) by omega]
    exact IntWalk.i64_in _ (by omega)
  simp [go_sem, h]
set_option maxRecDepth 100000 in
set_option maxHeartbeats 1000000 in
theorem check_far {w : World} {v : Value} {l : List Ent} (h : Es w v l) (hl : l.length ≤ 9223372036854775807) :
    Calls Tryz.prog 17 #[v] w fun e w' => e = .returned (.int .i64 (checkN l)) ∧ Below w.heap.size w w' := by
  obtain ⟨A, c, rfl⟩ := h.shape
  obtain ⟨n, hn⟩ : ∃ n, n = l.length := ⟨_, rfl⟩
  rw [← hn] at h ⊢
  have HE := Lib.hid h
  have HN := Lib.hid hn
  have n1 : n ≤ 9223372036854775807 := by omega
  obtain ⟨z, hz⟩ : ∃ z : Int, z = if 40 < n then 12 else 0 := ⟨_, rfl⟩
  have CM := Lib.hid (fun W => countMay_any n W)
  rw [← hz] at CM
  have HZ := Lib.hid hz
  clear h hn hl hz
  go_enter Tryz.func17, Tryz.ntmps17
  go_wp2_with fail
  go_loopw [3, 4, 7] (fun v3 v4 vi wr => ∃ k : Nat, vi = .int .i64 (k : Int) ∧ k ≤ n ∧ Hid (∀ j (x : Ent), j < k → l[j]? = some x → entOk x = true ∧ ∀ i (y : Ent), j = i + 1 → l[i]? = some y → ltB y.k x.k = true) ∧ Hid (Bl w.heap.size w wr)) (fun _ _ vi _ => n - (intOf vi).toNat)
  case atStart => exact ⟨0, rfl, Nat.zero_le _, Lib.hid (fun j x hj => by omega), Lib.hid (Bl.start w)⟩
  case round =>
    obtain ⟨k, rfl, hk, HV, HB⟩ := hrel
    by_cases hlt : k < n
    · obtain ⟨x, hx⟩ : ∃ x, l[k]? = some x := ⟨_, List.getElem?_eq_getElem (by rw [← HN.out]; exact hlt)⟩
      have HEr := Lib.hid (HE.out.below HB.out.1)
      obtain ⟨b, o, c', hv, hbl, d0, d1⟩ := HEr.out.at_ hx
      simp only [Value.slice.injEq] at hv
      obtain ⟨rfl, -, -⟩ := hv
      have HX := Lib.hid hx
      have i1 : (k : Int) < (n : Int) := by omega
      have wk : IntKind.i64.wrap ((k : Int) + 1) = (k : Int) + 1 := IntWalk.i64_in _ (by omega)
      obtain ⟨ek, ev⟩ := x
      simp only at d0 d1
      clear hx
      have EN := HN.out
      go_upto_region 4 with (fail)
      have BW := Lib.hid (HB.out.alloc (.cells #[.string ek, .string ev] 61))
      have BX := Lib.hid (Blk.new wr 61 #[.string ek, .string ev])
      have HE1 := Lib.hid (HEr.out.below ((Below.refl wr.heap.size wr).alloc (Nat.le_refl _) (.cells #[.string ek, .string ev] 61)))
      generalize wr.alloc (.cells #[.string ek, .string ev] 61) = w1 at *
      generalize wr.heap.size = g at *
      clear d0 d1 hbl HEr HB
      have CK : Hid (∀ W, Below w1.heap.size w1 W → W.cell? ⟨g, 0, none⟩ = some (.string ek)) := Lib.hid (fun W hW => by rw [(BX.out.below hW).cell]; rfl)
      have CV : Hid (∀ W, Below w1.heap.size w1 W → W.cell? ⟨g, 1, none⟩ = some (.string ev)) := Lib.hid (fun W hW => by rw [(BX.out.below hW).cell]; rfl)
      rcases hk' : keyOk ek with _ | _
      · have hk := hk'
        have KM : Hid (∀ W : World, Calls Tryz.prog 43 #[.string ek] W fun e w' => e = .returned (.bool false) ∧ Segs.Hist W w') := Lib.hid (fun W => (keyMay_any ek W).mono (fun e w' h => ⟨hk ▸ h.1, h.2 ▸ Segs.Hist.refl _⟩))
        have HBAD : Hid (adj l = false) := Lib.hid (adj_bad HX.out (fun h => by have := h.1; unfold entOk at this; rw [hk] at this; cases this))
        clear hk hk'
        have HB0 := Lib.hid (Bl.start w1)
        refine Segs.wp_region_perm Segs.Hist [(0, false), (1, false), (2, false), (3, false), (4, false), (5, false), (6, false), (7, false), (8, false), (9, false), (10, false), (11, false), (12, false), (13, false), (14, false), (15, false), (16, false), (17, false), (18, false), (19, false), (20, false), (21, false), (22, false), (23, false), (24, false)] Segs.Hist.refl Segs.Hist.trans (by kernel_rfl) (by kernel_rfl) rfl (by kernel_rfl) (Segs.WP.out ?_)
        have B2 := Lib.hid HB0.out.drew
        generalize w1.drew = W1 at B2 ⊢
        refine Segs.WP.val 0 rfl (some 12) (.pointer (some ⟨g, 0, none⟩)) rfl (by kernel_rfl) (fun WW h => by kernel_rfl) ?_
        simp only [Act.put, List.setIfInBounds_toArray, List.set_cons_zero, List.set_cons_succ]
        refine Segs.WP.val 1 rfl (some 13) (.string ek) rfl (by kernel_rfl) (fun WW h => Segs.run_cell 9 (.tmp 12) rfl g 0 (by kernel_rfl) _ (isAggStr _) (CK.out WW (B2.out.call h).1)) ?_
        simp only [Act.put, List.setIfInBounds_toArray, List.set_cons_zero, List.set_cons_succ]
        refine Segs.WP.call 2 rfl (some 14) 43 #[.string ek] (.bool false) rfl (by kernel_rfl) (fun W => by kernel_rfl) (fun WW h => (KM.out WW)) ?_
        simp only [Act.put, List.setIfInBounds_toArray, List.set_cons_zero, List.set_cons_succ]
        refine Segs.WP.val 3 rfl (some 15) (.bool true) rfl (by kernel_rfl) (fun WW h => by kernel_rfl) ?_
        simp only [Act.put, List.setIfInBounds_toArray, List.set_cons_zero, List.set_cons_succ]
        refine Segs.WP.val 4 rfl (some 16) (.bool true) rfl (by kernel_rfl) (fun WW h => by kernel_rfl) ?_
        simp only [Act.put, List.setIfInBounds_toArray, List.set_cons_zero, List.set_cons_succ]
        refine Segs.WP.not 5 rfl (some 17) rfl (by kernel_rfl) ?_
        simp only [Act.put, List.setIfInBounds_toArray, List.set_cons_zero, List.set_cons_succ]
        refine Segs.WP.not 6 rfl (some 18) rfl (by kernel_rfl) ?_
        simp only [Act.put, List.setIfInBounds_toArray, List.set_cons_zero, List.set_cons_succ]
        refine Segs.WP.not 7 rfl (some 19) rfl (by kernel_rfl) ?_
        simp only [Act.put, List.setIfInBounds_toArray, List.set_cons_zero, List.set_cons_succ]
        refine Segs.WP.not 8 rfl (some 20) rfl (by kernel_rfl) ?_
        simp only [Act.put, List.setIfInBounds_toArray, List.set_cons_zero, List.set_cons_succ]
        refine Segs.WP.val 9 rfl (some 21) (.bool true) rfl (by kernel_rfl) (fun WW h => by kernel_rfl) ?_
        simp only [Act.put, List.setIfInBounds_toArray, List.set_cons_zero, List.set_cons_succ]
        refine Segs.WP.val 10 rfl (some 22) (.bool true) rfl (by kernel_rfl) (fun WW h => by kernel_rfl) ?_
        simp only [Act.put, List.setIfInBounds_toArray, List.set_cons_zero, List.set_cons_succ]
        refine Segs.WP.not 11 rfl (some 23) rfl (by kernel_rfl) ?_
        simp only [Act.put, List.setIfInBounds_toArray, List.set_cons_zero, List.set_cons_succ]
        refine Segs.WP.not 12 rfl (some 24) rfl (by kernel_rfl) ?_
        simp only [Act.put, List.setIfInBounds_toArray, List.set_cons_zero, List.set_cons_succ]
        refine Segs.WP.not 13 rfl (some 25) rfl (by kernel_rfl) ?_
        simp only [Act.put, List.setIfInBounds_toArray, List.set_cons_zero, List.set_cons_succ]
        refine Segs.WP.not 14 rfl (some 26) rfl (by kernel_rfl) ?_
        simp only [Act.put, List.setIfInBounds_toArray, List.set_cons_zero, List.set_cons_succ]
        refine Segs.WP.not 15 rfl (some 27) rfl (by kernel_rfl) ?_
        simp only [Act.put, List.setIfInBounds_toArray, List.set_cons_zero, List.set_cons_succ]
        refine Segs.WP.not 16 rfl (some 28) rfl (by kernel_rfl) ?_
        simp only [Act.put, List.setIfInBounds_toArray, List.set_cons_zero, List.set_cons_succ]
        refine Segs.WP.not 17 rfl (some 29) rfl (by kernel_rfl) ?_
        simp only [Act.put, List.setIfInBounds_toArray, List.set_cons_zero, List.set_cons_succ]
        refine Segs.WP.not 18 rfl (some 30) rfl (by kernel_rfl) ?_
        simp only [Act.put, List.setIfInBounds_toArray, List.set_cons_zero, List.set_cons_succ]
        refine Segs.WP.not 19 rfl (some 31) rfl (by kernel_rfl) ?_
        simp only [Act.put, List.setIfInBounds_toArray, List.set_cons_zero, List.set_cons_succ]
        refine Segs.WP.not 20 rfl (some 32) rfl (by kernel_rfl) ?_
        simp only [Act.put, List.setIfInBounds_toArray, List.set_cons_zero, List.set_cons_succ]
        refine Segs.WP.not 21 rfl (some 33) rfl (by kernel_rfl) ?_
        simp only [Act.put, List.setIfInBounds_toArray, List.set_cons_zero, List.set_cons_succ]
        refine Segs.WP.not 22 rfl (some 34) rfl (by kernel_rfl) ?_
        simp only [Act.put, List.setIfInBounds_toArray, List.set_cons_zero, List.set_cons_succ]
        refine Segs.WP.not 23 rfl (some 35) rfl (by kernel_rfl) ?_
        simp only [Act.put, List.setIfInBounds_toArray, List.set_cons_zero, List.set_cons_succ]
        refine Segs.WP.val 24 rfl (some 36) (.bool true) rfl (by kernel_rfl) (fun WW h => by kernel_rfl) ?_
        simp only [Act.put, List.setIfInBounds_toArray, List.set_cons_zero, List.set_cons_succ]
        refine Segs.WP.fin (fun W3 hx => ?_)
        have B4 := Lib.hid (B2.out.call hx)
        clear hx
        go_wp2_with fail
        go_ret
        exact ⟨by rw [checkN, if_neg (by rw [HBAD.out]; exact Bool.false_ne_true)]; rfl, (Bl.call BW.out B4.out.1).1⟩
      · have hk := hk'
        rcases hv' : valOk ev with _ | _
        · have hv := hv'
          have KM : Hid (∀ W : World, Calls Tryz.prog 43 #[.string ek] W fun e w' => e = .returned (.bool true) ∧ Segs.Hist W w') := Lib.hid (fun W => (keyMay_any ek W).mono (fun e w' h => ⟨hk ▸ h.1, h.2 ▸ Segs.Hist.refl _⟩))
          have VM : Hid (∀ W : World, Calls Tryz.prog 44 #[.string ev] W fun e w' => e = .returned (.bool false) ∧ Segs.Hist W w') := Lib.hid (fun W => (valMay_any ev W).mono (fun e w' h => ⟨hv ▸ h.1, h.2 ▸ Segs.Hist.refl _⟩))
          have HBAD : Hid (adj l = false) := Lib.hid (adj_bad HX.out (fun h => by have := h.1; unfold entOk at this; rw [hk, hv] at this; cases this))
          clear hk hk' hv hv'
          have HB0 := Lib.hid (Bl.start w1)
          refine Segs.wp_region_perm Segs.Hist [(0, false), (1, false), (2, false), (3, false), (4, false), (5, false), (6, false), (7, false), (8, false), (9, false), (10, false), (11, false), (12, false), (13, false), (14, false), (15, false), (16, false), (17, false), (18, false), (19, false), (20, false), (21, false), (22, false), (23, false), (24, false)] Segs.Hist.refl Segs.Hist.trans (by kernel_rfl) (by kernel_rfl) rfl (by kernel_rfl) (Segs.WP.out ?_)
          have B2 := Lib.hid HB0.out.drew
          generalize w1.drew = W1 at B2 ⊢
          refine Segs.WP.val 0 rfl (some 12) (.pointer (some ⟨g, 0, none⟩)) rfl (by kernel_rfl) (fun WW h => by kernel_rfl) ?_
          simp only [Act.put, List.setIfInBounds_toArray, List.set_cons_zero, List.set_cons_succ]
          refine Segs.WP.val 1 rfl (some 13) (.string ek) rfl (by kernel_rfl) (fun WW h => Segs.run_cell 9 (.tmp 12) rfl g 0 (by kernel_rfl) _ (isAggStr _) (CK.out WW (B2.out.call h).1)) ?_
          simp only [Act.put, List.setIfInBounds_toArray, List.set_cons_zero, List.set_cons_succ]
          refine Segs.WP.call 2 rfl (some 14) 43 #[.string ek] (.bool true) rfl (by kernel_rfl) (fun W => by kernel_rfl) (fun WW h => (KM.out WW)) ?_
          simp only [Act.put, List.setIfInBounds_toArray, List.set_cons_zero, List.set_cons_succ]
          refine Segs.WP.val 3 rfl (some 15) (.bool false) rfl (by kernel_rfl) (fun WW h => by kernel_rfl) ?_
          simp only [Act.put, List.setIfInBounds_toArray, List.set_cons_zero, List.set_cons_succ]
          refine Segs.WP.val 4 rfl (some 16) (.bool false) rfl (by kernel_rfl) (fun WW h => by kernel_rfl) ?_
          simp only [Act.put, List.setIfInBounds_toArray, List.set_cons_zero, List.set_cons_succ]
          refine Segs.WP.val 5 rfl (some 17) (.pointer (some ⟨g, 1, none⟩)) rfl (by kernel_rfl) (fun WW h => by kernel_rfl) ?_
          simp only [Act.put, List.setIfInBounds_toArray, List.set_cons_zero, List.set_cons_succ]
          refine Segs.WP.val 6 rfl (some 18) (.string ev) rfl (by kernel_rfl) (fun WW h => Segs.run_cell 9 (.tmp 17) rfl g 1 (by kernel_rfl) _ (isAggStr _) (CV.out WW (B2.out.call h).1)) ?_
          simp only [Act.put, List.setIfInBounds_toArray, List.set_cons_zero, List.set_cons_succ]
          refine Segs.WP.call 7 rfl (some 19) 44 #[.string ev] (.bool false) rfl (by kernel_rfl) (fun W => by kernel_rfl) (fun WW h => (VM.out WW)) ?_
          simp only [Act.put, List.setIfInBounds_toArray, List.set_cons_zero, List.set_cons_succ]
          refine Segs.WP.val 8 rfl (some 20) (.bool true) rfl (by kernel_rfl) (fun WW h => by kernel_rfl) ?_
          simp only [Act.put, List.setIfInBounds_toArray, List.set_cons_zero, List.set_cons_succ]
          refine Segs.WP.val 9 rfl (some 21) (.bool true) rfl (by kernel_rfl) (fun WW h => by kernel_rfl) ?_
          simp only [Act.put, List.setIfInBounds_toArray, List.set_cons_zero, List.set_cons_succ]
          refine Segs.WP.val 10 rfl (some 22) (.bool true) rfl (by kernel_rfl) (fun WW h => by kernel_rfl) ?_
          simp only [Act.put, List.setIfInBounds_toArray, List.set_cons_zero, List.set_cons_succ]
          refine Segs.WP.not 11 rfl (some 23) rfl (by kernel_rfl) ?_
          simp only [Act.put, List.setIfInBounds_toArray, List.set_cons_zero, List.set_cons_succ]
          refine Segs.WP.not 12 rfl (some 24) rfl (by kernel_rfl) ?_
          simp only [Act.put, List.setIfInBounds_toArray, List.set_cons_zero, List.set_cons_succ]
          refine Segs.WP.not 13 rfl (some 25) rfl (by kernel_rfl) ?_
          simp only [Act.put, List.setIfInBounds_toArray, List.set_cons_zero, List.set_cons_succ]
          refine Segs.WP.not 14 rfl (some 26) rfl (by kernel_rfl) ?_
          simp only [Act.put, List.setIfInBounds_toArray, List.set_cons_zero, List.set_cons_succ]
          refine Segs.WP.not 15 rfl (some 27) rfl (by kernel_rfl) ?_
          simp only [Act.put, List.setIfInBounds_toArray, List.set_cons_zero, List.set_cons_succ]
          refine Segs.WP.not 16 rfl (some 28) rfl (by kernel_rfl) ?_
          simp only [Act.put, List.setIfInBounds_toArray, List.set_cons_zero, List.set_cons_succ]
          refine Segs.WP.not 17 rfl (some 29) rfl (by kernel_rfl) ?_
          simp only [Act.put, List.setIfInBounds_toArray, List.set_cons_zero, List.set_cons_succ]
          refine Segs.WP.not 18 rfl (some 30) rfl (by kernel_rfl) ?_
          simp only [Act.put, List.setIfInBounds_toArray, List.set_cons_zero, List.set_cons_succ]
          refine Segs.WP.not 19 rfl (some 31) rfl (by kernel_rfl) ?_
          simp only [Act.put, List.setIfInBounds_toArray, List.set_cons_zero, List.set_cons_succ]
          refine Segs.WP.not 20 rfl (some 32) rfl (by kernel_rfl) ?_
          simp only [Act.put, List.setIfInBounds_toArray, List.set_cons_zero, List.set_cons_succ]
          refine Segs.WP.not 21 rfl (some 33) rfl (by kernel_rfl) ?_
          simp only [Act.put, List.setIfInBounds_toArray, List.set_cons_zero, List.set_cons_succ]
          refine Segs.WP.not 22 rfl (some 34) rfl (by kernel_rfl) ?_
          simp only [Act.put, List.setIfInBounds_toArray, List.set_cons_zero, List.set_cons_succ]
          refine Segs.WP.not 23 rfl (some 35) rfl (by kernel_rfl) ?_
          simp only [Act.put, List.setIfInBounds_toArray, List.set_cons_zero, List.set_cons_succ]
          refine Segs.WP.val 24 rfl (some 36) (.bool true) rfl (by kernel_rfl) (fun WW h => by kernel_rfl) ?_
          simp only [Act.put, List.setIfInBounds_toArray, List.set_cons_zero, List.set_cons_succ]
          refine Segs.WP.fin (fun W3 hx => ?_)
          have B4 := Lib.hid (B2.out.call hx)
          clear hx
          go_wp2_with fail
          go_ret
          exact ⟨by rw [checkN, if_neg (by rw [HBAD.out]; exact Bool.false_ne_true)]; rfl, (Bl.call BW.out B4.out.1).1⟩
        · have hv := hv'
          have OKX : Hid (entOk ⟨ek, ev⟩ = true) := Lib.hid (by unfold entOk; rw [hk, hv]; rfl)
          by_cases hz : k = 0
          · have KM : Hid (∀ W : World, Calls Tryz.prog 43 #[.string ek] W fun e w' => e = .returned (.bool true) ∧ Segs.Hist W w') := Lib.hid (fun W => (keyMay_any ek W).mono (fun e w' h => ⟨hk ▸ h.1, h.2 ▸ Segs.Hist.refl _⟩))
            have VM : Hid (∀ W : World, Calls Tryz.prog 44 #[.string ev] W fun e w' => e = .returned (.bool true) ∧ Segs.Hist W w') := Lib.hid (fun W => (valMay_any ev W).mono (fun e w' h => ⟨hv ▸ h.1, h.2 ▸ Segs.Hist.refl _⟩))
            have Q0 := Lib.hid (show decide ((k : Int) > 0) = false from decide_eq_false (by omega))
            have HGO : Hid (∀ j (x : Ent), j < k + 1 → l[j]? = some x → entOk x = true ∧ ∀ i (y : Ent), j = i + 1 → l[i]? = some y → ltB y.k x.k = true) := Lib.hid (fun j x hj hx => by
              rcases Nat.lt_or_ge j k with h1 | h1
              · exact HV.out j x h1 hx
              · obtain rfl : j = k := by omega
                rw [HX.out] at hx
                cases hx
                exact ⟨OKX.out, fun i y hi => by omega⟩)
            clear hk hk' hv hv' hz
            have HB0 := Lib.hid (Bl.start w1)
            refine Segs.wp_region_perm Segs.Hist [(0, false), (1, false), (2, false), (3, false), (4, false), (5, false), (6, false), (7, false), (8, false), (9, false), (10, false), (11, false), (12, false), (13, false), (14, false), (15, false), (16, false), (17, false), (18, false), (19, false), (20, false), (21, false), (22, false), (23, false), (24, false)] Segs.Hist.refl Segs.Hist.trans (by kernel_rfl) (by kernel_rfl) rfl (by kernel_rfl) (Segs.WP.out ?_)
            have B2 := Lib.hid HB0.out.drew
            generalize w1.drew = W1 at B2 ⊢
            refine Segs.WP.val 0 rfl (some 12) (.pointer (some ⟨g, 0, none⟩)) rfl (by kernel_rfl) (fun WW h => by kernel_rfl) ?_
            simp only [Act.put, List.setIfInBounds_toArray, List.set_cons_zero, List.set_cons_succ]
            refine Segs.WP.val 1 rfl (some 13) (.string ek) rfl (by kernel_rfl) (fun WW h => Segs.run_cell 9 (.tmp 12) rfl g 0 (by kernel_rfl) _ (isAggStr _) (CK.out WW (B2.out.call h).1)) ?_
            simp only [Act.put, List.setIfInBounds_toArray, List.set_cons_zero, List.set_cons_succ]
            refine Segs.WP.call 2 rfl (some 14) 43 #[.string ek] (.bool true) rfl (by kernel_rfl) (fun W => by kernel_rfl) (fun WW h => (KM.out WW)) ?_
            simp only [Act.put, List.setIfInBounds_toArray, List.set_cons_zero, List.set_cons_succ]
            refine Segs.WP.val 3 rfl (some 15) (.bool false) rfl (by kernel_rfl) (fun WW h => by kernel_rfl) ?_
            simp only [Act.put, List.setIfInBounds_toArray, List.set_cons_zero, List.set_cons_succ]
            refine Segs.WP.val 4 rfl (some 16) (.bool false) rfl (by kernel_rfl) (fun WW h => by kernel_rfl) ?_
            simp only [Act.put, List.setIfInBounds_toArray, List.set_cons_zero, List.set_cons_succ]
            refine Segs.WP.val 5 rfl (some 17) (.pointer (some ⟨g, 1, none⟩)) rfl (by kernel_rfl) (fun WW h => by kernel_rfl) ?_
            simp only [Act.put, List.setIfInBounds_toArray, List.set_cons_zero, List.set_cons_succ]
            refine Segs.WP.val 6 rfl (some 18) (.string ev) rfl (by kernel_rfl) (fun WW h => Segs.run_cell 9 (.tmp 17) rfl g 1 (by kernel_rfl) _ (isAggStr _) (CV.out WW (B2.out.call h).1)) ?_
            simp only [Act.put, List.setIfInBounds_toArray, List.set_cons_zero, List.set_cons_succ]
            refine Segs.WP.call 7 rfl (some 19) 44 #[.string ev] (.bool true) rfl (by kernel_rfl) (fun W => by kernel_rfl) (fun WW h => (VM.out WW)) ?_
            simp only [Act.put, List.setIfInBounds_toArray, List.set_cons_zero, List.set_cons_succ]
            refine Segs.WP.val 8 rfl (some 20) (.bool false) rfl (by kernel_rfl) (fun WW h => by kernel_rfl) ?_
            simp only [Act.put, List.setIfInBounds_toArray, List.set_cons_zero, List.set_cons_succ]
            refine Segs.WP.val 9 rfl (some 21) (.bool false) rfl (by kernel_rfl) (fun WW h => by kernel_rfl) ?_
            simp only [Act.put, List.setIfInBounds_toArray, List.set_cons_zero, List.set_cons_succ]
            refine Segs.WP.val 10 rfl (some 22) (.bool false) rfl (by kernel_rfl) (fun WW h => by kernel_rfl) ?_
            simp only [Act.put, List.setIfInBounds_toArray, List.set_cons_zero, List.set_cons_succ]
            refine Segs.WP.val 11 rfl (some 23) (.int .i64 ((k : Int))) rfl (by kernel_rfl) (fun WW h => by kernel_rfl) ?_
            simp only [Act.put, List.setIfInBounds_toArray, List.set_cons_zero, List.set_cons_succ]
            refine Segs.WP.val 12 rfl (some 24) (.bool false) rfl (by kernel_rfl) (fun WW h => run_gti rfl _ _ (by kernel_rfl) (by kernel_rfl) false Q0.out) ?_
            simp only [Act.put, List.setIfInBounds_toArray, List.set_cons_zero, List.set_cons_succ]
            refine Segs.WP.val 13 rfl (some 25) (.bool false) rfl (by kernel_rfl) (fun WW h => by kernel_rfl) ?_
            simp only [Act.put, List.setIfInBounds_toArray, List.set_cons_zero, List.set_cons_succ]
            refine Segs.WP.not 14 rfl (some 26) rfl (by kernel_rfl) ?_
            simp only [Act.put, List.setIfInBounds_toArray, List.set_cons_zero, List.set_cons_succ]
            refine Segs.WP.not 15 rfl (some 27) rfl (by kernel_rfl) ?_
            simp only [Act.put, List.setIfInBounds_toArray, List.set_cons_zero, List.set_cons_succ]
            refine Segs.WP.not 16 rfl (some 28) rfl (by kernel_rfl) ?_
            simp only [Act.put, List.setIfInBounds_toArray, List.set_cons_zero, List.set_cons_succ]
            refine Segs.WP.not 17 rfl (some 29) rfl (by kernel_rfl) ?_
            simp only [Act.put, List.setIfInBounds_toArray, List.set_cons_zero, List.set_cons_succ]
            refine Segs.WP.not 18 rfl (some 30) rfl (by kernel_rfl) ?_
            simp only [Act.put, List.setIfInBounds_toArray, List.set_cons_zero, List.set_cons_succ]
            refine Segs.WP.not 19 rfl (some 31) rfl (by kernel_rfl) ?_
            simp only [Act.put, List.setIfInBounds_toArray, List.set_cons_zero, List.set_cons_succ]
            refine Segs.WP.not 20 rfl (some 32) rfl (by kernel_rfl) ?_
            simp only [Act.put, List.setIfInBounds_toArray, List.set_cons_zero, List.set_cons_succ]
            refine Segs.WP.not 21 rfl (some 33) rfl (by kernel_rfl) ?_
            simp only [Act.put, List.setIfInBounds_toArray, List.set_cons_zero, List.set_cons_succ]
            refine Segs.WP.not 22 rfl (some 34) rfl (by kernel_rfl) ?_
            simp only [Act.put, List.setIfInBounds_toArray, List.set_cons_zero, List.set_cons_succ]
            refine Segs.WP.val 23 rfl (some 35) (.bool false) rfl (by kernel_rfl) (fun WW h => by kernel_rfl) ?_
            simp only [Act.put, List.setIfInBounds_toArray, List.set_cons_zero, List.set_cons_succ]
            refine Segs.WP.val 24 rfl (some 36) (.bool false) rfl (by kernel_rfl) (fun WW h => by kernel_rfl) ?_
            simp only [Act.put, List.setIfInBounds_toArray, List.set_cons_zero, List.set_cons_succ]
            refine Segs.WP.fin (fun W3 hx => ?_)
            have B4 := Lib.hid (B2.out.call hx)
            clear hx
            obtain ⟨wz, hwz⟩ : ∃ z, z = W3 := ⟨_, rfl⟩
            have BZ := Lib.hid (Bl.call BW.out B4.out.1)
            rw [← hwz] at BZ ⊢
            clear hwz
            go_wp2_with fail
            exact ⟨⟨k + 1, by go_num, by omega, HGO, BZ⟩, by simp [intOf]; omega⟩
          · obtain ⟨kj, hkj⟩ : ∃ kj, k = kj + 1 := ⟨k - 1, by omega⟩
            obtain ⟨y, hy⟩ : ∃ y, l[kj]? = some y := ⟨_, List.getElem?_eq_getElem (by omega)⟩
            obtain ⟨b', o', c'', hv2, hb2, p0, p1⟩ := HE1.out.at_ hy
            simp only [Value.slice.injEq, Option.some.injEq, Addr.mk.injEq, and_true] at hv2
            obtain ⟨⟨rfl, rfl⟩, -⟩ := hv2
            obtain ⟨pk, pv⟩ := y
            simp only at p0 p1
            have CP : Hid (∀ W, Below w1.heap.size w1 W → W.cell? ⟨b, o + kj * 2, none⟩ = some (.string pk)) := Lib.hid (fun W hW => (hW.cell (p := ⟨b, _, none⟩) hb2).trans p0)
            have KJ := Lib.hid hkj
            have KL := Lib.hid (show k ≤ 9223372036854775807 by omega)
            have KN := Lib.hid (show kj < n by omega)
            have HY := Lib.hid hy
            have Q0 := Lib.hid (show decide ((k : Int) > 0) = true from decide_eq_true (by omega))
            clear p0 p1 hb2 hy hkj hz
            rcases hr : ltB pk ek with _ | _
            · have KM : Hid (∀ W : World, Calls Tryz.prog 43 #[.string ek] W fun e w' => e = .returned (.bool true) ∧ Segs.Hist W w') := Lib.hid (fun W => (keyMay_any ek W).mono (fun e w' h => ⟨hk ▸ h.1, h.2 ▸ Segs.Hist.refl _⟩))
              have VM : Hid (∀ W : World, Calls Tryz.prog 44 #[.string ev] W fun e w' => e = .returned (.bool true) ∧ Segs.Hist W w') := Lib.hid (fun W => (valMay_any ev W).mono (fun e w' h => ⟨hv ▸ h.1, h.2 ▸ Segs.Hist.refl _⟩))
              have Q1 : Hid ((!Op.bytesLess pk.toList ek.toList) = true) := Lib.hid (by show (!ltB pk ek) = true; rw [hr]; rfl)
              have HBAD : Hid (adj l = false) := Lib.hid (adj_bad HX.out (fun h => by have := h.2 kj _ KJ.out HY.out; simp only at this; rw [hr] at this; cases this))
              clear hk hk' hv hv' hr
              have HB0 := Lib.hid (Bl.start w1)
              refine Segs.wp_region_perm Segs.Hist [(0, false), (1, false), (2, false), (3, false), (4, false), (5, false), (6, false), (7, false), (8, false), (9, false), (10, false), (11, false), (12, false), (13, false), (14, false), (15, false), (16, false), (17, false), (18, false), (19, false), (20, false), (21, false), (22, false), (23, false), (24, false)] Segs.Hist.refl Segs.Hist.trans (by kernel_rfl) (by kernel_rfl) rfl (by kernel_rfl) (Segs.WP.out ?_)
              have B2 := Lib.hid HB0.out.drew
              generalize w1.drew = W1 at B2 ⊢
              refine Segs.WP.val 0 rfl (some 12) (.pointer (some ⟨g, 0, none⟩)) rfl (by kernel_rfl) (fun WW h => by kernel_rfl) ?_
              simp only [Act.put, List.setIfInBounds_toArray, List.set_cons_zero, List.set_cons_succ]
              refine Segs.WP.val 1 rfl (some 13) (.string ek) rfl (by kernel_rfl) (fun WW h => Segs.run_cell 9 (.tmp 12) rfl g 0 (by kernel_rfl) _ (isAggStr _) (CK.out WW (B2.out.call h).1)) ?_
              simp only [Act.put, List.setIfInBounds_toArray, List.set_cons_zero, List.set_cons_succ]
              refine Segs.WP.call 2 rfl (some 14) 43 #[.string ek] (.bool true) rfl (by kernel_rfl) (fun W => by kernel_rfl) (fun WW h => (KM.out WW)) ?_
              simp only [Act.put, List.setIfInBounds_toArray, List.set_cons_zero, List.set_cons_succ]
              refine Segs.WP.val 3 rfl (some 15) (.bool false) rfl (by kernel_rfl) (fun WW h => by kernel_rfl) ?_
              simp only [Act.put, List.setIfInBounds_toArray, List.set_cons_zero, List.set_cons_succ]
              refine Segs.WP.val 4 rfl (some 16) (.bool false) rfl (by kernel_rfl) (fun WW h => by kernel_rfl) ?_
              simp only [Act.put, List.setIfInBounds_toArray, List.set_cons_zero, List.set_cons_succ]
              refine Segs.WP.val 5 rfl (some 17) (.pointer (some ⟨g, 1, none⟩)) rfl (by kernel_rfl) (fun WW h => by kernel_rfl) ?_
              simp only [Act.put, List.setIfInBounds_toArray, List.set_cons_zero, List.set_cons_succ]
              refine Segs.WP.val 6 rfl (some 18) (.string ev) rfl (by kernel_rfl) (fun WW h => Segs.run_cell 9 (.tmp 17) rfl g 1 (by kernel_rfl) _ (isAggStr _) (CV.out WW (B2.out.call h).1)) ?_
              simp only [Act.put, List.setIfInBounds_toArray, List.set_cons_zero, List.set_cons_succ]
              refine Segs.WP.call 7 rfl (some 19) 44 #[.string ev] (.bool true) rfl (by kernel_rfl) (fun W => by kernel_rfl) (fun WW h => (VM.out WW)) ?_
              simp only [Act.put, List.setIfInBounds_toArray, List.set_cons_zero, List.set_cons_succ]
              refine Segs.WP.val 8 rfl (some 20) (.bool false) rfl (by kernel_rfl) (fun WW h => by kernel_rfl) ?_
              simp only [Act.put, List.setIfInBounds_toArray, List.set_cons_zero, List.set_cons_succ]
              refine Segs.WP.val 9 rfl (some 21) (.bool false) rfl (by kernel_rfl) (fun WW h => by kernel_rfl) ?_
              simp only [Act.put, List.setIfInBounds_toArray, List.set_cons_zero, List.set_cons_succ]
              refine Segs.WP.val 10 rfl (some 22) (.bool false) rfl (by kernel_rfl) (fun WW h => by kernel_rfl) ?_
              simp only [Act.put, List.setIfInBounds_toArray, List.set_cons_zero, List.set_cons_succ]
              refine Segs.WP.val 11 rfl (some 23) (.int .i64 ((k : Int))) rfl (by kernel_rfl) (fun WW h => by kernel_rfl) ?_
              simp only [Act.put, List.setIfInBounds_toArray, List.set_cons_zero, List.set_cons_succ]
              refine Segs.WP.val 12 rfl (some 24) (.bool true) rfl (by kernel_rfl) (fun WW h => run_gti rfl _ _ (by kernel_rfl) (by kernel_rfl) true Q0.out) ?_
              simp only [Act.put, List.setIfInBounds_toArray, List.set_cons_zero, List.set_cons_succ]
              refine Segs.WP.val 13 rfl (some 25) (.bool true) rfl (by kernel_rfl) (fun WW h => by kernel_rfl) ?_
              simp only [Act.put, List.setIfInBounds_toArray, List.set_cons_zero, List.set_cons_succ]
              refine Segs.WP.val 14 rfl (some 26) (.slice (some ⟨b, o, none⟩) n c) rfl (by kernel_rfl) (fun WW h => by kernel_rfl) ?_
              simp only [Act.put, List.setIfInBounds_toArray, List.set_cons_zero, List.set_cons_succ]
              refine Segs.WP.val 15 rfl (some 27) (.int .i64 ((k : Int))) rfl (by kernel_rfl) (fun WW h => by kernel_rfl) ?_
              simp only [Act.put, List.setIfInBounds_toArray, List.set_cons_zero, List.set_cons_succ]
              refine Segs.WP.val 16 rfl (some 28) (.int .i64 ((kj : Int))) rfl (by kernel_rfl) (fun WW h => run_predF rfl k kj (by kernel_rfl) (by kernel_rfl) KJ.out KL.out) ?_
              simp only [Act.put, List.setIfInBounds_toArray, List.set_cons_zero, List.set_cons_succ]
              refine Segs.WP.val 17 rfl (some 29) (.pointer (some ⟨b, (o + kj * 2), none⟩)) rfl (by kernel_rfl) (fun WW h => run_indexK Tryz.underlying22 sizeEnt rfl b o n c kj (by kernel_rfl) (by kernel_rfl) KN.out) ?_
              simp only [Act.put, List.setIfInBounds_toArray, List.set_cons_zero, List.set_cons_succ]
              refine Segs.WP.val 18 rfl (some 30) (.pointer (some ⟨b, (o + kj * 2), none⟩)) rfl (by kernel_rfl) (fun WW h => by kernel_rfl) ?_
              simp only [Act.put, List.setIfInBounds_toArray, List.set_cons_zero, List.set_cons_succ]
              refine Segs.WP.val 19 rfl (some 31) (.string pk) rfl (by kernel_rfl) (fun WW h => Segs.run_cell 9 (.tmp 30) rfl b (o + kj * 2) (by kernel_rfl) _ (isAggStr _) (CP.out WW (B2.out.call h).1)) ?_
              simp only [Act.put, List.setIfInBounds_toArray, List.set_cons_zero, List.set_cons_succ]
              refine Segs.WP.val 20 rfl (some 32) (.pointer (some ⟨g, 0, none⟩)) rfl (by kernel_rfl) (fun WW h => by kernel_rfl) ?_
              simp only [Act.put, List.setIfInBounds_toArray, List.set_cons_zero, List.set_cons_succ]
              refine Segs.WP.val 21 rfl (some 33) (.string ek) rfl (by kernel_rfl) (fun WW h => Segs.run_cell 9 (.tmp 32) rfl g 0 (by kernel_rfl) _ (isAggStr _) (CK.out WW (B2.out.call h).1)) ?_
              simp only [Act.put, List.setIfInBounds_toArray, List.set_cons_zero, List.set_cons_succ]
              refine Segs.WP.val 22 rfl (some 34) (.bool true) rfl (by kernel_rfl) (fun WW h => run_ges rfl pk ek (by kernel_rfl) (by kernel_rfl) true Q1.out) ?_
              simp only [Act.put, List.setIfInBounds_toArray, List.set_cons_zero, List.set_cons_succ]
              refine Segs.WP.val 23 rfl (some 35) (.bool true) rfl (by kernel_rfl) (fun WW h => by kernel_rfl) ?_
              simp only [Act.put, List.setIfInBounds_toArray, List.set_cons_zero, List.set_cons_succ]
              refine Segs.WP.val 24 rfl (some 36) (.bool true) rfl (by kernel_rfl) (fun WW h => by kernel_rfl) ?_
              simp only [Act.put, List.setIfInBounds_toArray, List.set_cons_zero, List.set_cons_succ]
              refine Segs.WP.fin (fun W3 hx => ?_)
              have B4 := Lib.hid (B2.out.call hx)
              clear hx
              go_wp2_with fail
              go_ret
              exact ⟨by rw [checkN, if_neg (by rw [HBAD.out]; exact Bool.false_ne_true)]; rfl, (Bl.call BW.out B4.out.1).1⟩
            · have KM : Hid (∀ W : World, Calls Tryz.prog 43 #[.string ek] W fun e w' => e = .returned (.bool true) ∧ Segs.Hist W w') := Lib.hid (fun W => (keyMay_any ek W).mono (fun e w' h => ⟨hk ▸ h.1, h.2 ▸ Segs.Hist.refl _⟩))
              have VM : Hid (∀ W : World, Calls Tryz.prog 44 #[.string ev] W fun e w' => e = .returned (.bool true) ∧ Segs.Hist W w') := Lib.hid (fun W => (valMay_any ev W).mono (fun e w' h => ⟨hv ▸ h.1, h.2 ▸ Segs.Hist.refl _⟩))
              have Q1 : Hid ((!Op.bytesLess pk.toList ek.toList) = false) := Lib.hid (by show (!ltB pk ek) = false; rw [hr]; rfl)
              have HGO : Hid (∀ j (x : Ent), j < k + 1 → l[j]? = some x → entOk x = true ∧ ∀ i (y : Ent), j = i + 1 → l[i]? = some y → ltB y.k x.k = true) := Lib.hid (fun j x hj hx => by
                rcases Nat.lt_or_ge j k with h1 | h1
                · exact HV.out j x h1 hx
                · obtain rfl : j = k := by omega
                  rw [HX.out] at hx
                  cases hx
                  exact ⟨OKX.out, (fun i y hi hy => by
                    obtain rfl : i = kj := by have := KJ.out; omega
                    rw [HY.out] at hy
                    cases hy
                    exact hr)⟩)
              clear hk hk' hv hv' hr
              have HB0 := Lib.hid (Bl.start w1)
              refine Segs.wp_region_perm Segs.Hist [(0, false), (1, false), (2, false), (3, false), (4, false), (5, false), (6, false), (7, false), (8, false), (9, false), (10, false), (11, false), (12, false), (13, false), (14, false), (15, false), (16, false), (17, false), (18, false), (19, false), (20, false), (21, false), (22, false), (23, false), (24, false)] Segs.Hist.refl Segs.Hist.trans (by kernel_rfl) (by kernel_rfl) rfl (by kernel_rfl) (Segs.WP.out ?_)
              have B2 := Lib.hid HB0.out.drew
              generalize w1.drew = W1 at B2 ⊢
              refine Segs.WP.val 0 rfl (some 12) (.pointer (some ⟨g, 0, none⟩)) rfl (by kernel_rfl) (fun WW h => by kernel_rfl) ?_
              simp only [Act.put, List.setIfInBounds_toArray, List.set_cons_zero, List.set_cons_succ]
              refine Segs.WP.val 1 rfl (some 13) (.string ek) rfl (by kernel_rfl) (fun WW h => Segs.run_cell 9 (.tmp 12) rfl g 0 (by kernel_rfl) _ (isAggStr _) (CK.out WW (B2.out.call h).1)) ?_
              simp only [Act.put, List.setIfInBounds_toArray, List.set_cons_zero, List.set_cons_succ]
              refine Segs.WP.call 2 rfl (some 14) 43 #[.string ek] (.bool true) rfl (by kernel_rfl) (fun W => by kernel_rfl) (fun WW h => (KM.out WW)) ?_
              simp only [Act.put, List.setIfInBounds_toArray, List.set_cons_zero, List.set_cons_succ]
              refine Segs.WP.val 3 rfl (some 15) (.bool false) rfl (by kernel_rfl) (fun WW h => by kernel_rfl) ?_
              simp only [Act.put, List.setIfInBounds_toArray, List.set_cons_zero, List.set_cons_succ]
              refine Segs.WP.val 4 rfl (some 16) (.bool false) rfl (by kernel_rfl) (fun WW h => by kernel_rfl) ?_
              simp only [Act.put, List.setIfInBounds_toArray, List.set_cons_zero, List.set_cons_succ]
              refine Segs.WP.val 5 rfl (some 17) (.pointer (some ⟨g, 1, none⟩)) rfl (by kernel_rfl) (fun WW h => by kernel_rfl) ?_
              simp only [Act.put, List.setIfInBounds_toArray, List.set_cons_zero, List.set_cons_succ]
              refine Segs.WP.val 6 rfl (some 18) (.string ev) rfl (by kernel_rfl) (fun WW h => Segs.run_cell 9 (.tmp 17) rfl g 1 (by kernel_rfl) _ (isAggStr _) (CV.out WW (B2.out.call h).1)) ?_
              simp only [Act.put, List.setIfInBounds_toArray, List.set_cons_zero, List.set_cons_succ]
              refine Segs.WP.call 7 rfl (some 19) 44 #[.string ev] (.bool true) rfl (by kernel_rfl) (fun W => by kernel_rfl) (fun WW h => (VM.out WW)) ?_
              simp only [Act.put, List.setIfInBounds_toArray, List.set_cons_zero, List.set_cons_succ]
              refine Segs.WP.val 8 rfl (some 20) (.bool false) rfl (by kernel_rfl) (fun WW h => by kernel_rfl) ?_
              simp only [Act.put, List.setIfInBounds_toArray, List.set_cons_zero, List.set_cons_succ]
              refine Segs.WP.val 9 rfl (some 21) (.bool false) rfl (by kernel_rfl) (fun WW h => by kernel_rfl) ?_
              simp only [Act.put, List.setIfInBounds_toArray, List.set_cons_zero, List.set_cons_succ]
              refine Segs.WP.val 10 rfl (some 22) (.bool false) rfl (by kernel_rfl) (fun WW h => by kernel_rfl) ?_
              simp only [Act.put, List.setIfInBounds_toArray, List.set_cons_zero, List.set_cons_succ]
              refine Segs.WP.val 11 rfl (some 23) (.int .i64 ((k : Int))) rfl (by kernel_rfl) (fun WW h => by kernel_rfl) ?_
              simp only [Act.put, List.setIfInBounds_toArray, List.set_cons_zero, List.set_cons_succ]
              refine Segs.WP.val 12 rfl (some 24) (.bool true) rfl (by kernel_rfl) (fun WW h => run_gti rfl _ _ (by kernel_rfl) (by kernel_rfl) true Q0.out) ?_
              simp only [Act.put, List.setIfInBounds_toArray, List.set_cons_zero, List.set_cons_succ]
              refine Segs.WP.val 13 rfl (some 25) (.bool true) rfl (by kernel_rfl) (fun WW h => by kernel_rfl) ?_
              simp only [Act.put, List.setIfInBounds_toArray, List.set_cons_zero, List.set_cons_succ]
              refine Segs.WP.val 14 rfl (some 26) (.slice (some ⟨b, o, none⟩) n c) rfl (by kernel_rfl) (fun WW h => by kernel_rfl) ?_
              simp only [Act.put, List.setIfInBounds_toArray, List.set_cons_zero, List.set_cons_succ]
              refine Segs.WP.val 15 rfl (some 27) (.int .i64 ((k : Int))) rfl (by kernel_rfl) (fun WW h => by kernel_rfl) ?_
              simp only [Act.put, List.setIfInBounds_toArray, List.set_cons_zero, List.set_cons_succ]
              refine Segs.WP.val 16 rfl (some 28) (.int .i64 ((kj : Int))) rfl (by kernel_rfl) (fun WW h => run_predF rfl k kj (by kernel_rfl) (by kernel_rfl) KJ.out KL.out) ?_
              simp only [Act.put, List.setIfInBounds_toArray, List.set_cons_zero, List.set_cons_succ]
              refine Segs.WP.val 17 rfl (some 29) (.pointer (some ⟨b, (o + kj * 2), none⟩)) rfl (by kernel_rfl) (fun WW h => run_indexK Tryz.underlying22 sizeEnt rfl b o n c kj (by kernel_rfl) (by kernel_rfl) KN.out) ?_
              simp only [Act.put, List.setIfInBounds_toArray, List.set_cons_zero, List.set_cons_succ]
              refine Segs.WP.val 18 rfl (some 30) (.pointer (some ⟨b, (o + kj * 2), none⟩)) rfl (by kernel_rfl) (fun WW h => by kernel_rfl) ?_
              simp only [Act.put, List.setIfInBounds_toArray, List.set_cons_zero, List.set_cons_succ]
              refine Segs.WP.val 19 rfl (some 31) (.string pk) rfl (by kernel_rfl) (fun WW h => Segs.run_cell 9 (.tmp 30) rfl b (o + kj * 2) (by kernel_rfl) _ (isAggStr _) (CP.out WW (B2.out.call h).1)) ?_
              simp only [Act.put, List.setIfInBounds_toArray, List.set_cons_zero, List.set_cons_succ]
              refine Segs.WP.val 20 rfl (some 32) (.pointer (some ⟨g, 0, none⟩)) rfl (by kernel_rfl) (fun WW h => by kernel_rfl) ?_
              simp only [Act.put, List.setIfInBounds_toArray, List.set_cons_zero, List.set_cons_succ]
              refine Segs.WP.val 21 rfl (some 33) (.string ek) rfl (by kernel_rfl) (fun WW h => Segs.run_cell 9 (.tmp 32) rfl g 0 (by kernel_rfl) _ (isAggStr _) (CK.out WW (B2.out.call h).1)) ?_
              simp only [Act.put, List.setIfInBounds_toArray, List.set_cons_zero, List.set_cons_succ]
              refine Segs.WP.val 22 rfl (some 34) (.bool false) rfl (by kernel_rfl) (fun WW h => run_ges rfl pk ek (by kernel_rfl) (by kernel_rfl) false Q1.out) ?_
              simp only [Act.put, List.setIfInBounds_toArray, List.set_cons_zero, List.set_cons_succ]
              refine Segs.WP.val 23 rfl (some 35) (.bool false) rfl (by kernel_rfl) (fun WW h => by kernel_rfl) ?_
              simp only [Act.put, List.setIfInBounds_toArray, List.set_cons_zero, List.set_cons_succ]
              refine Segs.WP.val 24 rfl (some 36) (.bool false) rfl (by kernel_rfl) (fun WW h => by kernel_rfl) ?_
              simp only [Act.put, List.setIfInBounds_toArray, List.set_cons_zero, List.set_cons_succ]
              refine Segs.WP.fin (fun W3 hx => ?_)
              have B4 := Lib.hid (B2.out.call hx)
              clear hx
              obtain ⟨wz, hwz⟩ : ∃ z, z = W3 := ⟨_, rfl⟩
              have BZ := Lib.hid (Bl.call BW.out B4.out.1)
              rw [← hwz] at BZ ⊢
              clear hwz
              go_wp2_with fail
              exact ⟨⟨k + 1, by go_num, by omega, HGO, BZ⟩, by simp [intOf]; omega⟩
    · obtain rfl : k = n := by omega
      have GD : Hid (adj l = true) := Lib.hid ((adj_iff l).2 (fun j x hj => HV.out j x (by have := (List.getElem?_eq_some_iff.1 hj).1; have := HN.out; omega) hj))
      go_wp2_with fail
      refine (CM.out _).mono ?_
      rintro e w' ⟨rfl, rfl⟩
      go_wp2_with fail
      go_ret
      exact ⟨by rw [checkN, if_pos GD.out, ← HN.out, ← HZ.out]; rfl, HB.out.1⟩
theorem check_any {w : World} {v : Value} {l : List Ent} (h : Es w v l) (hl : l.length ≤ 1000) :
    Calls Tryz.prog 17 #[v] w fun e w' => e = .returned (.int .i64 (checkN l)) ∧ Below w.heap.size w w' := check_far h (by omega)
end Go.Proofs.YtfeonjiiijdibaaGreatDoor
namespace Go.Proofs.Mdl
theorem checkN_cases (l : List Ent) : checkN l = 0 ∨ checkN l = 1 ∨ checkN l = 12 := by
  unfold checkN
  split
  · split
    · exact .inr (.inr rfl)
    · exact .inl rfl
  · exact .inr (.inl rfl)
theorem diffM_no {a b : List Ent} (h : ¬ checkN a = 0 ∨ ¬ checkN b = 0) : diffM a b = [] := by
  unfold diffM
  rw [if_neg (fun e => by rcases h with h | h; exact h e.1; exact h e.2)]
end Go.Proofs.Mdl
namespace Go.Proofs.YtfeonjiiijdibaaGreatDoor
open Go.RowKit Go.Proofs.Mdl
set_option linter.unusedVariables false
set_option linter.unusedSimpArgs false
def slLen : Value → Nat
  | .slice _ n _ => n
  | _ => 0
theorem elemChg : Tryz.prog.underlying 35 = some (.slice 58) := by kernel_rfl
theorem infoChg : (Tryz.prog.info? 58).map (fun i => (i.zero, i.size, i.bytes)) = some (some (.agg #[.string ⟨#[]⟩, .string ⟨#[]⟩, .bool false]), 3, 40) := by kernel_rfl
theorem elemEnt : Tryz.prog.underlying 22 = some (.slice 61) := by kernel_rfl
theorem elemEntP : Tryz.prog.underlying 22 = some (.slice (Tryz.prog.elem 22)) := by kernel_rfl
theorem sizeEntP (W : World) : (sizeOf (Tryz.prog.elem 22)).run Tryz.prog W = .ok 2 W := by kernel_rfl
theorem ent_low (b o m cap l : Nat) (hl : l ≤ m) (W : World) : (Instr.slice 22 (.slice (some ⟨b, o, none⟩) m cap) (some (.int .i64 (l : Int))) none none).run Tryz.prog W = .ok (.slice (if cap = l then some ⟨b, o, none⟩ else some ⟨b, o + l * 2, none⟩) (m - l) (cap - l)) W := by
  rw [run_slice_l W 22 (some ⟨b, o, none⟩) m cap elemEntP .i64 (l : Int) (by omega) (by omega), sizeEntP]
  simp only [Result.andThen, sliced, Int.toNat_natCast, Option.map_some, Addr.add_mid]
/-- l[1:] of entries. -/
theorem Es.tail {w : World} {b o n c : Nat} {e : Ent} {l : List Ent} (h : Es w (.slice (some ⟨b, o, none⟩) n c) (e :: l)) : ∃ A, (∀ W : World, (Instr.slice 22 (.slice (some ⟨b, o, none⟩) (l.length + 1) c) (some (.int .i64 1)) none none).run Tryz.prog W = .ok (.slice A l.length (c - 1)) W) ∧ Es w (.slice A l.length (c - 1)) l := by
  obtain ⟨h1, h2, h3⟩ := h.vs
  have h2' : l.length + 1 ≤ c := h2
  have hr := fun W => ent_low b o (l.length + 1) c 1 (by omega) W
  by_cases hc : c = 1
  · subst hc
    have h0 : l.length = 0 := by omega
    have : l = [] := List.length_eq_zero_iff.1 h0
    subst this
    exact ⟨some ⟨b, o, none⟩, fun W => hr W, ⟨_, _, rfl, Nat.zero_le _, .inl rfl⟩⟩
  · refine ⟨some ⟨b, o + 1 * 2, none⟩, fun W => by have := hr W; rw [if_neg hc] at this; exact this, ⟨_, _, rfl, by omega, ?_⟩⟩
    rcases h3 with h3 | ⟨b', o', e', hb, hcl⟩
    · cases h3
    · cases e'
      refine .inr ⟨b, o + 1 * 2, rfl, hb, fun j x hj => ?_⟩
      have := hcl (2 + j) x (by rw [flatE_cons, List.getElem?_append_right (by simp [cellE])]; simpa [cellE] using hj)
      rwa [show o + 1 * 2 + j = o + (2 + j) by omega]
theorem run_slice1 {o : Oper} {a : Act} {W : World} {x : Operand} (ho : o.op = .slice 22 x (some (.const (.int .i64 1))) none none) (v v' : Value) (hx : a.eval x = v) (h : (Instr.slice 22 v (some (.int .i64 1)) none none).run Tryz.prog W = .ok v' W) :
    (execOp a.eval o).run Tryz.prog W = .ok (.value v') W := by
  have h2 : (Instr.sliceAt 22 v (some (.int .i64 1)) none none).run Tryz.prog W = .ok v' W := by rw [run_sliceAt_slice (h := elemEntP)]; exact h
  have h3 : a.eval (.const (.int .i64 1)) = .int .i64 1 := rfl
  unfold execOp
  simp only [ho, hx, Option.map_some, Option.map_none, h3, Sem.run_bind, Sem.run_pure, h2, Result.andThen_ok]
theorem ix0 {o : Oper} {a : Act} {W : World} {x y : Operand} (b oo n c : Nat) (ho : o.op = .indexAddr 22 x y) (hx : a.eval x = .slice (some ⟨b, oo, none⟩) n c) (hy : a.eval y = .int .i64 0) (hi : 0 < n) :
    (execOp a.eval o).run Tryz.prog W = .ok (.value (.pointer (some ⟨b, oo, none⟩))) W := by
  have := run_indexK (W := W) elemEnt sizeEnt ho b oo n c 0 hx hy hi
  simpa using this
set_option maxRecDepth 100000 in
set_option maxHeartbeats 4000000 in
theorem diff_any {w : World} {va vb : Value} {a b : List Ent} (ha : Es w va a) (hb : Es w vb b) (hla : a.length ≤ 1000) (hlb : b.length ≤ 1000) :
    Calls Tryz.prog 29 #[va, vb] w fun e w' => ∃ v', e = .returned v' ∧ CsN (fun b => w.heap.size ≤ b) w' v' (diffM a b) ∧ Below w.heap.size w w' := by
  have CA := Lib.hid (fun W (hW : Below w.heap.size w W) => check_any (ha.below hW) hla)
  have CB := Lib.hid (fun W (hW : Below w.heap.size w W) => check_any (hb.below hW) hlb)
  have HA := Lib.hid ha
  have HB := Lib.hid hb
  obtain ⟨A, ca, rfl⟩ := ha.shape
  obtain ⟨B, cb, rfl⟩ := hb.shape
  have W0 := Lib.hid (Below.refl w.heap.size w)
  clear ha hb
  rcases checkN_cases a with h0 | h0 | h0
  rotate_left
  · have HD := Lib.hid (diffM_no (b := b) (.inl (by rw [h0]; decide : ¬ checkN a = 0)))
    rw [h0] at CA
    clear h0
    go_enter Tryz.func29, Tryz.ntmps29
    go_wp2_with fail
    refine (CA.out _ W0.out).mono ?_
    rintro e w1 ⟨rfl, hb1⟩
    go_wp2_with fail
    go_ret
    exact ⟨_, rfl, by rw [HD.out]; exact CsN.nil _ _, hb1⟩
  · have HD := Lib.hid (diffM_no (b := b) (.inl (by rw [h0]; decide : ¬ checkN a = 0)))
    rw [h0] at CA
    clear h0
    go_enter Tryz.func29, Tryz.ntmps29
    go_wp2_with fail
    refine (CA.out _ W0.out).mono ?_
    rintro e w1 ⟨rfl, hb1⟩
    go_wp2_with fail
    go_ret
    exact ⟨_, rfl, by rw [HD.out]; exact CsN.nil _ _, hb1⟩
  rw [h0] at CA
  rcases checkN_cases b with h1 | h1 | h1
  rotate_left
  · have HD := Lib.hid (diffM_no (a := a) (.inr (by rw [h1]; decide : ¬ checkN b = 0)))
    rw [h1] at CB
    clear h0 h1
    go_enter Tryz.func29, Tryz.ntmps29
    go_wp2_with fail
    refine (CA.out _ W0.out).mono ?_
    rintro e w1 ⟨rfl, hb1⟩
    have HB1 := Lib.hid hb1
    clear hb1
    go_wp2_with fail
    refine (CB.out _ HB1.out).mono ?_
    rintro e w2 ⟨rfl, hb2⟩
    go_wp2_with fail
    go_ret
    exact ⟨_, rfl, by rw [HD.out]; exact CsN.nil _ _, HB1.out.trans (Below.mono hb2 HB1.out.size)⟩
  · have HD := Lib.hid (diffM_no (a := a) (.inr (by rw [h1]; decide : ¬ checkN b = 0)))
    rw [h1] at CB
    clear h0 h1
    go_enter Tryz.func29, Tryz.ntmps29
    go_wp2_with fail
    refine (CA.out _ W0.out).mono ?_
    rintro e w1 ⟨rfl, hb1⟩
    have HB1 := Lib.hid hb1
    clear hb1
    go_wp2_with fail
    refine (CB.out _ HB1.out).mono ?_
    rintro e w2 ⟨rfl, hb2⟩
    go_wp2_with fail
    go_ret
    exact ⟨_, rfl, by rw [HD.out]; exact CsN.nil _ _, HB1.out.trans (Below.mono hb2 HB1.out.size)⟩
  rw [h1] at CB
  have HD : Hid (diffM a b = diffL a b) := Lib.hid (by unfold diffM; rw [if_pos ⟨h0, h1⟩])
  clear h0 h1
  go_enter Tryz.func29, Tryz.ntmps29
  go_wp2_with fail
  refine (CA.out _ W0.out).mono ?_
  rintro e w1 ⟨rfl, hb1⟩
  have HB1 := Lib.hid hb1
  clear hb1
  go_wp2_with fail
  refine (CB.out _ HB1.out).mono ?_
  rintro e w2 ⟨rfl, hb2⟩
  have HB2 := Lib.hid (HB1.out.trans (Below.mono hb2 HB1.out.size))
  clear hb2 HB1 CA CB
  go_wp2_with fail
  go_loopw [0, 1, 5] (fun v0 v1 v5 wr => ∃ (x y : List Ent) (done : List Chg), Hid (Es w2 v0 x) ∧ Hid (Es w2 v1 y) ∧ x.length ≤ 1000 ∧ y.length ≤ 1000 ∧ Hid (done.length + x.length + y.length ≤ 2000) ∧ Hid (wr.ownsRow w2.heap.size 58 3 v5 done.length (flatC done)) ∧ Hid (done ++ diffL x y = diffL a b) ∧ Hid (Bl w2.heap.size w2 wr)) (fun v0 v1 _ _ => slLen v0 + slLen v1)
  case atStart => exact ⟨a, b, [], Lib.hid (HA.out.below HB2.out), Lib.hid (HB.out.below HB2.out), hla, hlb, Lib.hid (by simp; omega), Lib.hid ⟨rfl, .inl ⟨rfl, rfl⟩⟩, Lib.hid rfl, Lib.hid (Bl.start w2)⟩
  case round =>
    obtain ⟨x, y, done, EX, EY, hx, hy, DL, OD, DD, BD⟩ := hrel
    obtain ⟨Ax, cx, hv0⟩ := EX.out.shape
    obtain ⟨Ay, cy, hv1⟩ := EY.out.shape
    obtain ⟨Ao, co, hv5⟩ := own_shape OD.out
    subst hv0; subst hv1; subst hv5
    have wsum : IntKind.i64.wrap ((x.length : Int) + (y.length : Int)) = (x.length : Int) + (y.length : Int) := IntWalk.i64_in _ (by omega)
    cases x with
    | nil =>
      cases y with
      | nil =>
        simp only [List.length_nil] at wsum ⊢
        go_wp2_with fail
        go_ret
        exact ⟨_, rfl, by rw [HD.out, ← DD.out, diffL_nn, List.append_nil]; exact CsN.of_own OD.out HB2.out.size, HB2.out.trans (Below.mono BD.out.1 HB2.out.size)⟩
      | cons ye y =>
        simp only [List.length_cons, List.length_nil] at EX EY hx hy DL wsum ⊢
        obtain ⟨by_, oy, cy2, hvy, hby, ay0, ay1⟩ := EY.out.at_ (k := 0) rfl
        simp only [Value.slice.injEq] at hvy
        obtain ⟨rfl, -, -⟩ := hvy
        obtain ⟨yk, yv⟩ := ye
        simp only [Nat.zero_mul, Nat.add_zero] at ay0 ay1
        have BK : Hid (∀ W, Below w2.heap.size w2 W → W.cell? ⟨by_, oy, none⟩ = some (.string yk)) := Lib.hid (fun W hW => (hW.cell (p := ⟨by_, _, none⟩) hby).trans ay0)
        have BV : Hid (∀ W, Below w2.heap.size w2 W → W.cell? ⟨by_, oy + 1, none⟩ = some (.string yv)) := Lib.hid (fun W hW => (hW.cell (p := ⟨by_, _, none⟩) hby).trans ay1)
        obtain ⟨Ay2, hsy, hty⟩ := EY.out.tail
        have SY := Lib.hid hsy
        have EY2 := Lib.hid hty
        clear hsy hty ay0 ay1 hby
        have E48 : Hid (decide (((y.length + 1 : Nat) : Int) = 0) = false) := Lib.hid (decide_eq_false (by omega))
        have E52 : Hid (decide (((0 : Nat) : Int) > 0) = false) := Lib.hid (rfl)
        have E78 : Hid (decide (((0 : Nat) : Int) = 0) = true) := Lib.hid (rfl)
        have z0 : (0 : Int) < ((0 : Nat) : Int) + ((y.length + 1 : Nat) : Int) := by omega
        have y1 : (0 : Int) < ((y.length + 1 : Nat) : Int) := by omega
        go_upto_region 8 with (fail)
        have OW : Hid ((wr.drew).ownsRow w2.heap.size 58 3 (.slice Ao done.length co) done.length (flatC done)) := Lib.hid (own_drewN OD.out 1)
        refine Segs.wp_region_perm Segs.Hist [(0, false), (1, false), (2, false), (3, false), (4, false), (5, false), (6, false), (7, false), (8, false), (9, false), (10, false), (11, false), (12, false), (13, false), (14, false), (15, false), (16, false), (17, false), (18, false), (19, false)] Segs.Hist.refl Segs.Hist.trans (by kernel_rfl) (by kernel_rfl) rfl (by kernel_rfl) (Segs.WP.out ?_)
        have B2 := Lib.hid BD.out.drew
        generalize wr.drew = W1 at B2 OW ⊢
        refine Segs.WP.val 0 rfl (some 46) (.slice (some ⟨by_, oy, none⟩) (y.length + 1) cy) rfl (by kernel_rfl) (fun WW h => by kernel_rfl) ?_
        simp only [Act.put, List.setIfInBounds_toArray, List.set_cons_zero, List.set_cons_succ]
        refine Segs.WP.val 1 rfl (some 47) (.int .i64 (((y.length + 1 : Nat) : Int))) rfl (by kernel_rfl) (fun WW h => run_lens rfl ((some ⟨by_, oy, none⟩)) (y.length + 1) cy (by kernel_rfl) Tryz.underlying22) ?_
        simp only [Act.put, List.setIfInBounds_toArray, List.set_cons_zero, List.set_cons_succ]
        refine Segs.WP.val 2 rfl (some 48) (.bool false) rfl (by kernel_rfl) (fun WW h => run_eqi rfl _ _ (by kernel_rfl) (by kernel_rfl) false E48.out) ?_
        simp only [Act.put, List.setIfInBounds_toArray, List.set_cons_zero, List.set_cons_succ]
        refine Segs.WP.val 3 rfl (some 49) (.bool false) rfl (by kernel_rfl) (fun WW h => by kernel_rfl) ?_
        simp only [Act.put, List.setIfInBounds_toArray, List.set_cons_zero, List.set_cons_succ]
        refine Segs.WP.val 4 rfl (some 50) (.slice Ax 0 cx) rfl (by kernel_rfl) (fun WW h => by kernel_rfl) ?_
        simp only [Act.put, List.setIfInBounds_toArray, List.set_cons_zero, List.set_cons_succ]
        refine Segs.WP.val 5 rfl (some 51) (.int .i64 (((0 : Nat) : Int))) rfl (by kernel_rfl) (fun WW h => run_lens rfl (Ax) (0) cx (by kernel_rfl) Tryz.underlying22) ?_
        simp only [Act.put, List.setIfInBounds_toArray, List.set_cons_zero, List.set_cons_succ]
        refine Segs.WP.val 6 rfl (some 52) (.bool false) rfl (by kernel_rfl) (fun WW h => run_gti rfl _ _ (by kernel_rfl) (by kernel_rfl) false E52.out) ?_
        simp only [Act.put, List.setIfInBounds_toArray, List.set_cons_zero, List.set_cons_succ]
        refine Segs.WP.val 7 rfl (some 53) (.bool false) rfl (by kernel_rfl) (fun WW h => by kernel_rfl) ?_
        simp only [Act.put, List.setIfInBounds_toArray, List.set_cons_zero, List.set_cons_succ]
        refine Segs.WP.not 8 rfl (some 54) rfl (by kernel_rfl) ?_
        simp only [Act.put, List.setIfInBounds_toArray, List.set_cons_zero, List.set_cons_succ]
        refine Segs.WP.not 9 rfl (some 55) rfl (by kernel_rfl) ?_
        simp only [Act.put, List.setIfInBounds_toArray, List.set_cons_zero, List.set_cons_succ]
        refine Segs.WP.not 10 rfl (some 56) rfl (by kernel_rfl) ?_
        simp only [Act.put, List.setIfInBounds_toArray, List.set_cons_zero, List.set_cons_succ]
        refine Segs.WP.not 11 rfl (some 57) rfl (by kernel_rfl) ?_
        simp only [Act.put, List.setIfInBounds_toArray, List.set_cons_zero, List.set_cons_succ]
        refine Segs.WP.not 12 rfl (some 58) rfl (by kernel_rfl) ?_
        simp only [Act.put, List.setIfInBounds_toArray, List.set_cons_zero, List.set_cons_succ]
        refine Segs.WP.not 13 rfl (some 59) rfl (by kernel_rfl) ?_
        simp only [Act.put, List.setIfInBounds_toArray, List.set_cons_zero, List.set_cons_succ]
        refine Segs.WP.not 14 rfl (some 60) rfl (by kernel_rfl) ?_
        simp only [Act.put, List.setIfInBounds_toArray, List.set_cons_zero, List.set_cons_succ]
        refine Segs.WP.not 15 rfl (some 61) rfl (by kernel_rfl) ?_
        simp only [Act.put, List.setIfInBounds_toArray, List.set_cons_zero, List.set_cons_succ]
        refine Segs.WP.not 16 rfl (some 62) rfl (by kernel_rfl) ?_
        simp only [Act.put, List.setIfInBounds_toArray, List.set_cons_zero, List.set_cons_succ]
        refine Segs.WP.val 17 rfl (some 63) (.bool false) rfl (by kernel_rfl) (fun WW h => by kernel_rfl) ?_
        simp only [Act.put, List.setIfInBounds_toArray, List.set_cons_zero, List.set_cons_succ]
        refine Segs.WP.val 18 rfl (some 64) (.bool false) rfl (by kernel_rfl) (fun WW h => by kernel_rfl) ?_
        simp only [Act.put, List.setIfInBounds_toArray, List.set_cons_zero, List.set_cons_succ]
        refine Segs.WP.val 19 rfl (some 45) (.bool false) rfl (by kernel_rfl) (fun WW h => by kernel_rfl) ?_
        simp only [Act.put, List.setIfInBounds_toArray, List.set_cons_zero, List.set_cons_succ]
        refine Segs.WP.fin (fun W3 hx => ?_)
        have B4 := Lib.hid (B2.out.call hx)
        have OD := Lib.hid (own_below OW.out hx)
        have BD := B4
        obtain ⟨wa, hwz⟩ : ∃ z, z = W3 := ⟨_, rfl⟩
        rw [← hwz] at OD BD ⊢
        clear hwz hx OW
        go_upto_region 11 with (fail)
        have OW : Hid ((wa.drew).ownsRow w2.heap.size 58 3 (.slice Ao done.length co) done.length (flatC done)) := Lib.hid (own_drewN OD.out 1)
        refine Segs.wp_region_perm Segs.Hist [(0, false), (1, false), (2, false), (3, false), (4, false), (5, false), (6, false), (7, false), (8, false), (9, false), (10, false), (11, false), (12, false), (13, false), (14, false)] Segs.Hist.refl Segs.Hist.trans (by kernel_rfl) (by kernel_rfl) rfl (by kernel_rfl) (Segs.WP.out ?_)
        have B2 := Lib.hid BD.out.drew
        generalize wa.drew = W1 at B2 OW ⊢
        refine Segs.WP.val 0 rfl (some 76) (.slice Ax 0 cx) rfl (by kernel_rfl) (fun WW h => by kernel_rfl) ?_
        simp only [Act.put, List.setIfInBounds_toArray, List.set_cons_zero, List.set_cons_succ]
        refine Segs.WP.val 1 rfl (some 77) (.int .i64 (((0 : Nat) : Int))) rfl (by kernel_rfl) (fun WW h => run_lens rfl (Ax) (0) cx (by kernel_rfl) Tryz.underlying22) ?_
        simp only [Act.put, List.setIfInBounds_toArray, List.set_cons_zero, List.set_cons_succ]
        refine Segs.WP.val 2 rfl (some 78) (.bool true) rfl (by kernel_rfl) (fun WW h => run_eqi rfl _ _ (by kernel_rfl) (by kernel_rfl) true E78.out) ?_
        simp only [Act.put, List.setIfInBounds_toArray, List.set_cons_zero, List.set_cons_succ]
        refine Segs.WP.val 3 rfl (some 79) (.bool true) rfl (by kernel_rfl) (fun WW h => by kernel_rfl) ?_
        simp only [Act.put, List.setIfInBounds_toArray, List.set_cons_zero, List.set_cons_succ]
        refine Segs.WP.not 4 rfl (some 80) rfl (by kernel_rfl) ?_
        simp only [Act.put, List.setIfInBounds_toArray, List.set_cons_zero, List.set_cons_succ]
        refine Segs.WP.not 5 rfl (some 81) rfl (by kernel_rfl) ?_
        simp only [Act.put, List.setIfInBounds_toArray, List.set_cons_zero, List.set_cons_succ]
        refine Segs.WP.not 6 rfl (some 82) rfl (by kernel_rfl) ?_
        simp only [Act.put, List.setIfInBounds_toArray, List.set_cons_zero, List.set_cons_succ]
        refine Segs.WP.not 7 rfl (some 83) rfl (by kernel_rfl) ?_
        simp only [Act.put, List.setIfInBounds_toArray, List.set_cons_zero, List.set_cons_succ]
        refine Segs.WP.not 8 rfl (some 84) rfl (by kernel_rfl) ?_
        simp only [Act.put, List.setIfInBounds_toArray, List.set_cons_zero, List.set_cons_succ]
        refine Segs.WP.not 9 rfl (some 85) rfl (by kernel_rfl) ?_
        simp only [Act.put, List.setIfInBounds_toArray, List.set_cons_zero, List.set_cons_succ]
        refine Segs.WP.not 10 rfl (some 86) rfl (by kernel_rfl) ?_
        simp only [Act.put, List.setIfInBounds_toArray, List.set_cons_zero, List.set_cons_succ]
        refine Segs.WP.not 11 rfl (some 87) rfl (by kernel_rfl) ?_
        simp only [Act.put, List.setIfInBounds_toArray, List.set_cons_zero, List.set_cons_succ]
        refine Segs.WP.not 12 rfl (some 88) rfl (by kernel_rfl) ?_
        simp only [Act.put, List.setIfInBounds_toArray, List.set_cons_zero, List.set_cons_succ]
        refine Segs.WP.val 13 rfl (some 89) (.bool true) rfl (by kernel_rfl) (fun WW h => by kernel_rfl) ?_
        simp only [Act.put, List.setIfInBounds_toArray, List.set_cons_zero, List.set_cons_succ]
        refine Segs.WP.val 14 rfl (some 75) (.bool true) rfl (by kernel_rfl) (fun WW h => by kernel_rfl) ?_
        simp only [Act.put, List.setIfInBounds_toArray, List.set_cons_zero, List.set_cons_succ]
        refine Segs.WP.fin (fun W3 hx => ?_)
        have B4 := Lib.hid (B2.out.call hx)
        have OD := Lib.hid (own_below OW.out hx)
        have BD := B4
        obtain ⟨wb, hwz⟩ : ∃ z, z = W3 := ⟨_, rfl⟩
        rw [← hwz] at OD BD ⊢
        clear hwz hx OW
        go_upto_region 12 with (fail)
        have OA : Hid (((wb.alloc (.cells #[.string yk, .string yv, .bool false] 58)).drew).ownsRow w2.heap.size 58 3 (.slice Ao done.length co) done.length (flatC done)) := Lib.hid (own_drewN (World.ownsRow.alloc OD.out _) 1)
        have BA : Hid (Bl w2.heap.size w2 ((wb.alloc (.cells #[.string yk, .string yv, .bool false] 58)).drew)) := Lib.hid ((BD.out.alloc _).drewN 1)
        have E0 : Hid (Below w2.heap.size w2 (wb.drew)) := Lib.hid (BD.out.drewN 1).1
        have E1 : Hid (Below w2.heap.size w2 ((wb.alloc (.cells #[.string yk, .string yv, .bool false] 58)).drew)) := Lib.hid BA.out.1
        have NC := Lib.hid (new_cells wb 58 [.string yk, .string yv, .bool false])
        have NC2 : Hid (∀ j y, ([.string yk, .string yv, .bool false] : List Value)[j]? = some y → ((wb.alloc (.cells #[.string yk, .string yv, .bool false] 58)).drew).cell? ⟨wb.heap.size, 0 + j, none⟩ = some y) := Lib.hid NC.out
        have N1 : Hid (done.length + 1 ≤ 1000000) := Lib.hid (by have := DL.out; omega)
        have OM : Hid (∀ y ∈ ([.string yk, .string yv, .bool false] : List Value), y.oneCell' = true) := Lib.hid (by intro y hy; simp only [List.mem_cons, List.not_mem_nil, or_false] at hy; rcases hy with rfl | rfl | rfl <;> rfl)
        have ST : Hid (∀ W, Below w2.heap.size w2 W → W.cell? ⟨by_, oy, none⟩ = some (.string yk) ∧ W.cell? ⟨by_, oy + 1, none⟩ = some (.string yv)) := Lib.hid (fun W hW => ⟨BK.out W hW, BV.out W hW⟩)
        clear NC
        go_region_held3 (fun W => W.cell? ⟨by_, oy, none⟩ = some (.string yk) ∧ W.cell? ⟨by_, oy + 1, none⟩ = some (.string yv))
          (first | (with_reducible exact ST.out _ E0.out) | (with_reducible exact ST.out _ E1.out) | (with_reducible exact ST.out _ E5.out))
          (first
            | (refine step_append_own elemChg infoChg rfl (by decide) (by decide) rfl (.tmp 90) (.tmp 100) rfl rfl w2.heap.size _ _ (flatC done) wb.heap.size 0 1 1 [.string yk, .string yv, .bool false] rfl rfl OA.out rfl NC2.out OM.out N1.out BA.out.2 ?_; intro v5 wc own5 gr5 _; have b5 := BA.out.grownRow OA.out (Nat.le_refl _) gr5; have BE := Lib.hid b5; have OE := Lib.hid own5; have E5 := Lib.hid b5.1; clear own5 gr5 b5))
        have OE2 : Hid (wc.ownsRow w2.heap.size 58 3 v5 (done ++ [(⟨yk, yv, false⟩ : Chg)]).length (flatC (done ++ [(⟨yk, yv, false⟩ : Chg)]))) := Lib.hid (by rw [flatC_append, List.length_append]; exact OE.out)
        clear OA BA E0 E1 NC2 OM ST E5 OE
        have sy := SY.out
        go_wp2_with fail
        refine ⟨⟨[], y, _, EX, EY2, by omega, by omega, Lib.hid (by have := DL.out; simp; omega), OE2, Lib.hid ?_, BE⟩, by show 0 + y.length < 0 + (y.length + 1); omega⟩
        rw [List.append_assoc, List.singleton_append]
        exact (by rw [← DD.out, diffL_nc])
    | cons xe x =>
      cases y with
      | nil =>
        simp only [List.length_cons, List.length_nil] at EX EY hx hy DL wsum ⊢
        obtain ⟨bx, ox, cx2, hvx, hbx, ax0, ax1⟩ := EX.out.at_ (k := 0) rfl
        simp only [Value.slice.injEq] at hvx
        obtain ⟨rfl, -, -⟩ := hvx
        obtain ⟨xk, xv⟩ := xe
        simp only [Nat.zero_mul, Nat.add_zero] at ax0 ax1
        have AK : Hid (∀ W, Below w2.heap.size w2 W → W.cell? ⟨bx, ox, none⟩ = some (.string xk)) := Lib.hid (fun W hW => (hW.cell (p := ⟨bx, _, none⟩) hbx).trans ax0)
        have AV : Hid (∀ W, Below w2.heap.size w2 W → W.cell? ⟨bx, ox + 1, none⟩ = some (.string xv)) := Lib.hid (fun W hW => (hW.cell (p := ⟨bx, _, none⟩) hbx).trans ax1)
        obtain ⟨Ax2, hsx, htx⟩ := EX.out.tail
        have SX := Lib.hid hsx
        have EX2 := Lib.hid htx
        clear hsx htx ax0 ax1 hbx
        have E48 : Hid (decide (((0 : Nat) : Int) = 0) = true) := Lib.hid (rfl)
        have E52 : Hid (decide (((x.length + 1 : Nat) : Int) > 0) = true) := Lib.hid (decide_eq_true (by omega))
        have E78 : Hid (decide (((x.length + 1 : Nat) : Int) = 0) = false) := Lib.hid (decide_eq_false (by omega))
        have z0 : (0 : Int) < ((x.length + 1 : Nat) : Int) + ((0 : Nat) : Int) := by omega
        have y1 : (0 : Int) < ((x.length + 1 : Nat) : Int) := by omega
        go_upto_region 8 with (fail)
        have OW : Hid ((wr.drew).ownsRow w2.heap.size 58 3 (.slice Ao done.length co) done.length (flatC done)) := Lib.hid (own_drewN OD.out 1)
        refine Segs.wp_region_perm Segs.Hist [(0, false), (1, false), (2, false), (3, false), (4, false), (5, false), (6, false), (7, false), (8, false), (9, false), (10, false), (11, false), (12, false), (13, false), (14, false), (15, false), (16, false), (17, false), (18, false), (19, false)] Segs.Hist.refl Segs.Hist.trans (by kernel_rfl) (by kernel_rfl) rfl (by kernel_rfl) (Segs.WP.out ?_)
        have B2 := Lib.hid BD.out.drew
        generalize wr.drew = W1 at B2 OW ⊢
        refine Segs.WP.val 0 rfl (some 46) (.slice Ay 0 cy) rfl (by kernel_rfl) (fun WW h => by kernel_rfl) ?_
        simp only [Act.put, List.setIfInBounds_toArray, List.set_cons_zero, List.set_cons_succ]
        refine Segs.WP.val 1 rfl (some 47) (.int .i64 (((0 : Nat) : Int))) rfl (by kernel_rfl) (fun WW h => run_lens rfl (Ay) (0) cy (by kernel_rfl) Tryz.underlying22) ?_
        simp only [Act.put, List.setIfInBounds_toArray, List.set_cons_zero, List.set_cons_succ]
        refine Segs.WP.val 2 rfl (some 48) (.bool true) rfl (by kernel_rfl) (fun WW h => run_eqi rfl _ _ (by kernel_rfl) (by kernel_rfl) true E48.out) ?_
        simp only [Act.put, List.setIfInBounds_toArray, List.set_cons_zero, List.set_cons_succ]
        refine Segs.WP.val 3 rfl (some 49) (.bool true) rfl (by kernel_rfl) (fun WW h => by kernel_rfl) ?_
        simp only [Act.put, List.setIfInBounds_toArray, List.set_cons_zero, List.set_cons_succ]
        refine Segs.WP.not 4 rfl (some 50) rfl (by kernel_rfl) ?_
        simp only [Act.put, List.setIfInBounds_toArray, List.set_cons_zero, List.set_cons_succ]
        refine Segs.WP.not 5 rfl (some 51) rfl (by kernel_rfl) ?_
        simp only [Act.put, List.setIfInBounds_toArray, List.set_cons_zero, List.set_cons_succ]
        refine Segs.WP.not 6 rfl (some 52) rfl (by kernel_rfl) ?_
        simp only [Act.put, List.setIfInBounds_toArray, List.set_cons_zero, List.set_cons_succ]
        refine Segs.WP.not 7 rfl (some 53) rfl (by kernel_rfl) ?_
        simp only [Act.put, List.setIfInBounds_toArray, List.set_cons_zero, List.set_cons_succ]
        refine Segs.WP.not 8 rfl (some 54) rfl (by kernel_rfl) ?_
        simp only [Act.put, List.setIfInBounds_toArray, List.set_cons_zero, List.set_cons_succ]
        refine Segs.WP.not 9 rfl (some 55) rfl (by kernel_rfl) ?_
        simp only [Act.put, List.setIfInBounds_toArray, List.set_cons_zero, List.set_cons_succ]
        refine Segs.WP.not 10 rfl (some 56) rfl (by kernel_rfl) ?_
        simp only [Act.put, List.setIfInBounds_toArray, List.set_cons_zero, List.set_cons_succ]
        refine Segs.WP.not 11 rfl (some 57) rfl (by kernel_rfl) ?_
        simp only [Act.put, List.setIfInBounds_toArray, List.set_cons_zero, List.set_cons_succ]
        refine Segs.WP.not 12 rfl (some 58) rfl (by kernel_rfl) ?_
        simp only [Act.put, List.setIfInBounds_toArray, List.set_cons_zero, List.set_cons_succ]
        refine Segs.WP.not 13 rfl (some 59) rfl (by kernel_rfl) ?_
        simp only [Act.put, List.setIfInBounds_toArray, List.set_cons_zero, List.set_cons_succ]
        refine Segs.WP.not 14 rfl (some 60) rfl (by kernel_rfl) ?_
        simp only [Act.put, List.setIfInBounds_toArray, List.set_cons_zero, List.set_cons_succ]
        refine Segs.WP.not 15 rfl (some 61) rfl (by kernel_rfl) ?_
        simp only [Act.put, List.setIfInBounds_toArray, List.set_cons_zero, List.set_cons_succ]
        refine Segs.WP.not 16 rfl (some 62) rfl (by kernel_rfl) ?_
        simp only [Act.put, List.setIfInBounds_toArray, List.set_cons_zero, List.set_cons_succ]
        refine Segs.WP.not 17 rfl (some 63) rfl (by kernel_rfl) ?_
        simp only [Act.put, List.setIfInBounds_toArray, List.set_cons_zero, List.set_cons_succ]
        refine Segs.WP.val 18 rfl (some 64) (.bool true) rfl (by kernel_rfl) (fun WW h => by kernel_rfl) ?_
        simp only [Act.put, List.setIfInBounds_toArray, List.set_cons_zero, List.set_cons_succ]
        refine Segs.WP.val 19 rfl (some 45) (.bool true) rfl (by kernel_rfl) (fun WW h => by kernel_rfl) ?_
        simp only [Act.put, List.setIfInBounds_toArray, List.set_cons_zero, List.set_cons_succ]
        refine Segs.WP.fin (fun W3 hx => ?_)
        have B4 := Lib.hid (B2.out.call hx)
        have OD := Lib.hid (own_below OW.out hx)
        have BD := B4
        obtain ⟨wa, hwz⟩ : ∃ z, z = W3 := ⟨_, rfl⟩
        rw [← hwz] at OD BD ⊢
        clear hwz hx OW
        have d0 := AK.out _ BD.out.1
        have BA := Lib.hid (BD.out.alloc (.cells #[.string xk, .string ⟨#[]⟩, .bool true] 58))
        have NC := Lib.hid (new_cells wa 58 [.string xk, .string ⟨#[]⟩, .bool true])
        have N1 : Hid (done.length + 1 ≤ 1000000) := Lib.hid (by have := DL.out; omega)
        have OM : Hid (∀ y ∈ ([.string xk, .string ⟨#[]⟩, .bool true] : List Value), y.oneCell' = true) := Lib.hid (by intro y hy; simp only [List.mem_cons, List.not_mem_nil, or_false] at hy; rcases hy with rfl | rfl | rfl <;> rfl)
        go_upto_region 10 with (at_builtin; (refine wpList_append_own (k := 3) (T := 58) (S := 35) elemChg infoChg rfl (by decide) (by decide) rfl _ _ rfl rfl w2.heap.size _ _ (flatC done) wa.heap.size 0 1 1 [.string xk, .string ⟨#[]⟩, .bool true] rfl rfl (World.ownsRow.alloc OD.out _) rfl NC.out OM.out N1.out BA.out.2 ?_; intro v5 wb own5 gr5 _; have b5 := BA.out.grownRow (World.ownsRow.alloc OD.out _) (Nat.le_refl _) gr5; have BE := Lib.hid b5; have OE := Lib.hid own5; clear own5 gr5 b5))
        have OE2 : Hid (wb.ownsRow w2.heap.size 58 3 v5 (done ++ [(⟨xk, ⟨#[]⟩, true⟩ : Chg)]).length (flatC (done ++ [(⟨xk, ⟨#[]⟩, true⟩ : Chg)]))) := Lib.hid (by rw [flatC_append, List.length_append]; exact OE.out)
        have sx := SX.out
        clear d0 NC OM BA OE
        go_wp2_with fail
        refine ⟨⟨x, [], _, EX2, EY, by omega, by omega, Lib.hid (by have := DL.out; simp; omega), OE2, Lib.hid ?_, BE⟩, by show x.length + 0 < x.length + 1 + 0; omega⟩
        rw [List.append_assoc, List.singleton_append]
        exact (by rw [← DD.out, diffL_cn]; rfl)
      | cons ye y =>
        simp only [List.length_cons] at EX EY hx hy DL wsum ⊢
        obtain ⟨bx, ox, cx2, hvx, hbx, ax0, ax1⟩ := EX.out.at_ (k := 0) rfl
        simp only [Value.slice.injEq] at hvx
        obtain ⟨rfl, -, -⟩ := hvx
        obtain ⟨xk, xv⟩ := xe
        simp only [Nat.zero_mul, Nat.add_zero] at ax0 ax1
        have AK : Hid (∀ W, Below w2.heap.size w2 W → W.cell? ⟨bx, ox, none⟩ = some (.string xk)) := Lib.hid (fun W hW => (hW.cell (p := ⟨bx, _, none⟩) hbx).trans ax0)
        have AV : Hid (∀ W, Below w2.heap.size w2 W → W.cell? ⟨bx, ox + 1, none⟩ = some (.string xv)) := Lib.hid (fun W hW => (hW.cell (p := ⟨bx, _, none⟩) hbx).trans ax1)
        obtain ⟨Ax2, hsx, htx⟩ := EX.out.tail
        have SX := Lib.hid hsx
        have EX2 := Lib.hid htx
        clear hsx htx ax0 ax1 hbx
        obtain ⟨by_, oy, cy2, hvy, hby, ay0, ay1⟩ := EY.out.at_ (k := 0) rfl
        simp only [Value.slice.injEq] at hvy
        obtain ⟨rfl, -, -⟩ := hvy
        obtain ⟨yk, yv⟩ := ye
        simp only [Nat.zero_mul, Nat.add_zero] at ay0 ay1
        have BK : Hid (∀ W, Below w2.heap.size w2 W → W.cell? ⟨by_, oy, none⟩ = some (.string yk)) := Lib.hid (fun W hW => (hW.cell (p := ⟨by_, _, none⟩) hby).trans ay0)
        have BV : Hid (∀ W, Below w2.heap.size w2 W → W.cell? ⟨by_, oy + 1, none⟩ = some (.string yv)) := Lib.hid (fun W hW => (hW.cell (p := ⟨by_, _, none⟩) hby).trans ay1)
        obtain ⟨Ay2, hsy, hty⟩ := EY.out.tail
        have SY := Lib.hid hsy
        have EY2 := Lib.hid hty
        clear hsy hty ay0 ay1 hby
        have E48 : Hid (decide (((y.length + 1 : Nat) : Int) = 0) = false) := Lib.hid (decide_eq_false (by omega))
        have E52 : Hid (decide (((x.length + 1 : Nat) : Int) > 0) = true) := Lib.hid (decide_eq_true (by omega))
        have E78 : Hid (decide (((x.length + 1 : Nat) : Int) = 0) = false) := Lib.hid (decide_eq_false (by omega))
        have z0 : (0 : Int) < ((x.length + 1 : Nat) : Int) + ((y.length + 1 : Nat) : Int) := by omega
        have y1 : (0 : Int) < ((x.length + 1 : Nat) : Int) := by omega
        have y2 : (0 : Int) < ((y.length + 1 : Nat) : Int) := by omega
        rcases hlt : ltB xk yk with _ | _
        · have LT : Hid (Op.bytesLess xk.toList yk.toList = false) := Lib.hid hlt
          have HLT : Hid (¬ ltB xk yk = true) := Lib.hid (by rw [hlt]; exact Bool.false_ne_true)
          clear hlt
          go_upto_region 8 with (fail)
          have OW : Hid ((wr.drew).ownsRow w2.heap.size 58 3 (.slice Ao done.length co) done.length (flatC done)) := Lib.hid (own_drewN OD.out 1)
          refine Segs.wp_region_perm Segs.Hist [(0, false), (1, false), (2, false), (3, false), (4, false), (5, false), (6, false), (7, false), (8, false), (9, false), (10, false), (11, false), (12, false), (13, false), (14, false), (15, false), (16, false), (17, false), (18, false), (19, false)] Segs.Hist.refl Segs.Hist.trans (by kernel_rfl) (by kernel_rfl) rfl (by kernel_rfl) (Segs.WP.out ?_)
          have B2 := Lib.hid BD.out.drew
          generalize wr.drew = W1 at B2 OW ⊢
          refine Segs.WP.val 0 rfl (some 46) (.slice (some ⟨by_, oy, none⟩) (y.length + 1) cy) rfl (by kernel_rfl) (fun WW h => by kernel_rfl) ?_
          simp only [Act.put, List.setIfInBounds_toArray, List.set_cons_zero, List.set_cons_succ]
          refine Segs.WP.val 1 rfl (some 47) (.int .i64 (((y.length + 1 : Nat) : Int))) rfl (by kernel_rfl) (fun WW h => run_lens rfl ((some ⟨by_, oy, none⟩)) (y.length + 1) cy (by kernel_rfl) Tryz.underlying22) ?_
          simp only [Act.put, List.setIfInBounds_toArray, List.set_cons_zero, List.set_cons_succ]
          refine Segs.WP.val 2 rfl (some 48) (.bool false) rfl (by kernel_rfl) (fun WW h => run_eqi rfl _ _ (by kernel_rfl) (by kernel_rfl) false E48.out) ?_
          simp only [Act.put, List.setIfInBounds_toArray, List.set_cons_zero, List.set_cons_succ]
          refine Segs.WP.val 3 rfl (some 49) (.bool false) rfl (by kernel_rfl) (fun WW h => by kernel_rfl) ?_
          simp only [Act.put, List.setIfInBounds_toArray, List.set_cons_zero, List.set_cons_succ]
          refine Segs.WP.val 4 rfl (some 50) (.slice (some ⟨bx, ox, none⟩) (x.length + 1) cx) rfl (by kernel_rfl) (fun WW h => by kernel_rfl) ?_
          simp only [Act.put, List.setIfInBounds_toArray, List.set_cons_zero, List.set_cons_succ]
          refine Segs.WP.val 5 rfl (some 51) (.int .i64 (((x.length + 1 : Nat) : Int))) rfl (by kernel_rfl) (fun WW h => run_lens rfl ((some ⟨bx, ox, none⟩)) (x.length + 1) cx (by kernel_rfl) Tryz.underlying22) ?_
          simp only [Act.put, List.setIfInBounds_toArray, List.set_cons_zero, List.set_cons_succ]
          refine Segs.WP.val 6 rfl (some 52) (.bool true) rfl (by kernel_rfl) (fun WW h => run_gti rfl _ _ (by kernel_rfl) (by kernel_rfl) true E52.out) ?_
          simp only [Act.put, List.setIfInBounds_toArray, List.set_cons_zero, List.set_cons_succ]
          refine Segs.WP.val 7 rfl (some 53) (.bool true) rfl (by kernel_rfl) (fun WW h => by kernel_rfl) ?_
          simp only [Act.put, List.setIfInBounds_toArray, List.set_cons_zero, List.set_cons_succ]
          refine Segs.WP.val 8 rfl (some 54) (.slice (some ⟨bx, ox, none⟩) (x.length + 1) cx) rfl (by kernel_rfl) (fun WW h => by kernel_rfl) ?_
          simp only [Act.put, List.setIfInBounds_toArray, List.set_cons_zero, List.set_cons_succ]
          refine Segs.WP.val 9 rfl (some 55) (.pointer (some ⟨bx, ox, none⟩)) rfl (by kernel_rfl) (fun WW h => ix0 bx ox (x.length + 1) cx rfl (by kernel_rfl) (by kernel_rfl) (Nat.succ_pos _)) ?_
          simp only [Act.put, List.setIfInBounds_toArray, List.set_cons_zero, List.set_cons_succ]
          refine Segs.WP.val 10 rfl (some 56) (.pointer (some ⟨bx, ox, none⟩)) rfl (by kernel_rfl) (fun WW h => by kernel_rfl) ?_
          simp only [Act.put, List.setIfInBounds_toArray, List.set_cons_zero, List.set_cons_succ]
          refine Segs.WP.val 11 rfl (some 57) (.string xk) rfl (by kernel_rfl) (fun WW h => Segs.run_cell 9 (.tmp 56) rfl bx ox (by kernel_rfl) _ (isAggStr _) (AK.out WW (B2.out.call h).1)) ?_
          simp only [Act.put, List.setIfInBounds_toArray, List.set_cons_zero, List.set_cons_succ]
          refine Segs.WP.val 12 rfl (some 58) (.slice (some ⟨by_, oy, none⟩) (y.length + 1) cy) rfl (by kernel_rfl) (fun WW h => by kernel_rfl) ?_
          simp only [Act.put, List.setIfInBounds_toArray, List.set_cons_zero, List.set_cons_succ]
          refine Segs.WP.val 13 rfl (some 59) (.pointer (some ⟨by_, oy, none⟩)) rfl (by kernel_rfl) (fun WW h => ix0 by_ oy (y.length + 1) cy rfl (by kernel_rfl) (by kernel_rfl) (Nat.succ_pos _)) ?_
          simp only [Act.put, List.setIfInBounds_toArray, List.set_cons_zero, List.set_cons_succ]
          refine Segs.WP.val 14 rfl (some 60) (.pointer (some ⟨by_, oy, none⟩)) rfl (by kernel_rfl) (fun WW h => by kernel_rfl) ?_
          simp only [Act.put, List.setIfInBounds_toArray, List.set_cons_zero, List.set_cons_succ]
          refine Segs.WP.val 15 rfl (some 61) (.string yk) rfl (by kernel_rfl) (fun WW h => Segs.run_cell 9 (.tmp 60) rfl by_ oy (by kernel_rfl) _ (isAggStr _) (BK.out WW (B2.out.call h).1)) ?_
          simp only [Act.put, List.setIfInBounds_toArray, List.set_cons_zero, List.set_cons_succ]
          refine Segs.WP.val 16 rfl (some 62) (.bool false) rfl (by kernel_rfl) (fun WW h => run_lts rfl xk yk (by kernel_rfl) (by kernel_rfl) false LT.out) ?_
          simp only [Act.put, List.setIfInBounds_toArray, List.set_cons_zero, List.set_cons_succ]
          refine Segs.WP.val 17 rfl (some 63) (.bool false) rfl (by kernel_rfl) (fun WW h => by kernel_rfl) ?_
          simp only [Act.put, List.setIfInBounds_toArray, List.set_cons_zero, List.set_cons_succ]
          refine Segs.WP.val 18 rfl (some 64) (.bool false) rfl (by kernel_rfl) (fun WW h => by kernel_rfl) ?_
          simp only [Act.put, List.setIfInBounds_toArray, List.set_cons_zero, List.set_cons_succ]
          refine Segs.WP.val 19 rfl (some 45) (.bool false) rfl (by kernel_rfl) (fun WW h => by kernel_rfl) ?_
          simp only [Act.put, List.setIfInBounds_toArray, List.set_cons_zero, List.set_cons_succ]
          refine Segs.WP.fin (fun W3 hx => ?_)
          have B4 := Lib.hid (B2.out.call hx)
          have OD := Lib.hid (own_below OW.out hx)
          have BD := B4
          obtain ⟨wa, hwz⟩ : ∃ z, z = W3 := ⟨_, rfl⟩
          rw [← hwz] at OD BD ⊢
          clear hwz hx OW
          go_upto_region 11 with (fail)
          rcases hgt : ltB yk xk with _ | _
          · have LT2 : Hid (Op.bytesLess yk.toList xk.toList = false) := Lib.hid hgt
            have HGT : Hid (¬ ltB yk xk = true) := Lib.hid (by rw [hgt]; exact Bool.false_ne_true)
            clear hgt
            have OW : Hid ((wa.drew).ownsRow w2.heap.size 58 3 (.slice Ao done.length co) done.length (flatC done)) := Lib.hid (own_drewN OD.out 1)
            refine Segs.wp_region_perm Segs.Hist [(0, false), (1, false), (2, false), (3, false), (4, false), (5, false), (6, false), (7, false), (8, false), (9, false), (10, false), (11, false), (12, false), (13, false), (14, false)] Segs.Hist.refl Segs.Hist.trans (by kernel_rfl) (by kernel_rfl) rfl (by kernel_rfl) (Segs.WP.out ?_)
            have B2 := Lib.hid BD.out.drew
            generalize wa.drew = W1 at B2 OW ⊢
            refine Segs.WP.val 0 rfl (some 76) (.slice (some ⟨bx, ox, none⟩) (x.length + 1) cx) rfl (by kernel_rfl) (fun WW h => by kernel_rfl) ?_
            simp only [Act.put, List.setIfInBounds_toArray, List.set_cons_zero, List.set_cons_succ]
            refine Segs.WP.val 1 rfl (some 77) (.int .i64 (((x.length + 1 : Nat) : Int))) rfl (by kernel_rfl) (fun WW h => run_lens rfl ((some ⟨bx, ox, none⟩)) (x.length + 1) cx (by kernel_rfl) Tryz.underlying22) ?_
            simp only [Act.put, List.setIfInBounds_toArray, List.set_cons_zero, List.set_cons_succ]
            refine Segs.WP.val 2 rfl (some 78) (.bool false) rfl (by kernel_rfl) (fun WW h => run_eqi rfl _ _ (by kernel_rfl) (by kernel_rfl) false E78.out) ?_
            simp only [Act.put, List.setIfInBounds_toArray, List.set_cons_zero, List.set_cons_succ]
            refine Segs.WP.val 3 rfl (some 79) (.bool false) rfl (by kernel_rfl) (fun WW h => by kernel_rfl) ?_
            simp only [Act.put, List.setIfInBounds_toArray, List.set_cons_zero, List.set_cons_succ]
            refine Segs.WP.val 4 rfl (some 80) (.slice (some ⟨by_, oy, none⟩) (y.length + 1) cy) rfl (by kernel_rfl) (fun WW h => by kernel_rfl) ?_
            simp only [Act.put, List.setIfInBounds_toArray, List.set_cons_zero, List.set_cons_succ]
            refine Segs.WP.val 5 rfl (some 81) (.pointer (some ⟨by_, oy, none⟩)) rfl (by kernel_rfl) (fun WW h => ix0 by_ oy (y.length + 1) cy rfl (by kernel_rfl) (by kernel_rfl) (Nat.succ_pos _)) ?_
            simp only [Act.put, List.setIfInBounds_toArray, List.set_cons_zero, List.set_cons_succ]
            refine Segs.WP.val 6 rfl (some 82) (.pointer (some ⟨by_, oy, none⟩)) rfl (by kernel_rfl) (fun WW h => by kernel_rfl) ?_
            simp only [Act.put, List.setIfInBounds_toArray, List.set_cons_zero, List.set_cons_succ]
            refine Segs.WP.val 7 rfl (some 83) (.string yk) rfl (by kernel_rfl) (fun WW h => Segs.run_cell 9 (.tmp 82) rfl by_ oy (by kernel_rfl) _ (isAggStr _) (BK.out WW (B2.out.call h).1)) ?_
            simp only [Act.put, List.setIfInBounds_toArray, List.set_cons_zero, List.set_cons_succ]
            refine Segs.WP.val 8 rfl (some 84) (.slice (some ⟨bx, ox, none⟩) (x.length + 1) cx) rfl (by kernel_rfl) (fun WW h => by kernel_rfl) ?_
            simp only [Act.put, List.setIfInBounds_toArray, List.set_cons_zero, List.set_cons_succ]
            refine Segs.WP.val 9 rfl (some 85) (.pointer (some ⟨bx, ox, none⟩)) rfl (by kernel_rfl) (fun WW h => ix0 bx ox (x.length + 1) cx rfl (by kernel_rfl) (by kernel_rfl) (Nat.succ_pos _)) ?_
            simp only [Act.put, List.setIfInBounds_toArray, List.set_cons_zero, List.set_cons_succ]
            refine Segs.WP.val 10 rfl (some 86) (.pointer (some ⟨bx, ox, none⟩)) rfl (by kernel_rfl) (fun WW h => by kernel_rfl) ?_
            simp only [Act.put, List.setIfInBounds_toArray, List.set_cons_zero, List.set_cons_succ]
            refine Segs.WP.val 11 rfl (some 87) (.string xk) rfl (by kernel_rfl) (fun WW h => Segs.run_cell 9 (.tmp 86) rfl bx ox (by kernel_rfl) _ (isAggStr _) (AK.out WW (B2.out.call h).1)) ?_
            simp only [Act.put, List.setIfInBounds_toArray, List.set_cons_zero, List.set_cons_succ]
            refine Segs.WP.val 12 rfl (some 88) (.bool false) rfl (by kernel_rfl) (fun WW h => run_lts rfl yk xk (by kernel_rfl) (by kernel_rfl) false LT2.out) ?_
            simp only [Act.put, List.setIfInBounds_toArray, List.set_cons_zero, List.set_cons_succ]
            refine Segs.WP.val 13 rfl (some 89) (.bool false) rfl (by kernel_rfl) (fun WW h => by kernel_rfl) ?_
            simp only [Act.put, List.setIfInBounds_toArray, List.set_cons_zero, List.set_cons_succ]
            refine Segs.WP.val 14 rfl (some 75) (.bool false) rfl (by kernel_rfl) (fun WW h => by kernel_rfl) ?_
            simp only [Act.put, List.setIfInBounds_toArray, List.set_cons_zero, List.set_cons_succ]
            refine Segs.WP.fin (fun W3 hx => ?_)
            have B4 := Lib.hid (B2.out.call hx)
            have OD := Lib.hid (own_below OW.out hx)
            have BD := B4
            obtain ⟨wb, hwz⟩ : ∃ z, z = W3 := ⟨_, rfl⟩
            rw [← hwz] at OD BD ⊢
            clear hwz hx OW
            go_upto_region 5 with (fail)
            by_cases hve : xv = yv
            rotate_left
            · have VE : Hid (decide (¬ xv = yv) = true) := Lib.hid (by simp [hve])
              have HVE := Lib.hid hve
              clear hve
              have OW : Hid ((wb.drew).ownsRow w2.heap.size 58 3 (.slice Ao done.length co) done.length (flatC done)) := Lib.hid (own_drewN OD.out 1)
              refine Segs.wp_region_perm Segs.Hist [(0, false), (1, false), (2, false), (3, false), (4, false), (5, false), (6, false), (7, false), (8, false)] Segs.Hist.refl Segs.Hist.trans (by kernel_rfl) (by kernel_rfl) rfl (by kernel_rfl) (Segs.WP.out ?_)
              have B2 := Lib.hid BD.out.drew
              generalize wb.drew = W1 at B2 OW ⊢
              refine Segs.WP.val 0 rfl (some 20) (.slice (some ⟨bx, ox, none⟩) (x.length + 1) cx) rfl (by kernel_rfl) (fun WW h => by kernel_rfl) ?_
              simp only [Act.put, List.setIfInBounds_toArray, List.set_cons_zero, List.set_cons_succ]
              refine Segs.WP.val 1 rfl (some 21) (.pointer (some ⟨bx, ox, none⟩)) rfl (by kernel_rfl) (fun WW h => ix0 bx ox (x.length + 1) cx rfl (by kernel_rfl) (by kernel_rfl) (Nat.succ_pos _)) ?_
              simp only [Act.put, List.setIfInBounds_toArray, List.set_cons_zero, List.set_cons_succ]
              refine Segs.WP.val 2 rfl (some 22) (.pointer (some ⟨bx, (ox + 1), none⟩)) rfl (by kernel_rfl) (fun WW h => by kernel_rfl) ?_
              simp only [Act.put, List.setIfInBounds_toArray, List.set_cons_zero, List.set_cons_succ]
              refine Segs.WP.val 3 rfl (some 23) (.string xv) rfl (by kernel_rfl) (fun WW h => Segs.run_cell 9 (.tmp 22) rfl bx (ox + 1) (by kernel_rfl) _ (isAggStr _) (AV.out WW (B2.out.call h).1)) ?_
              simp only [Act.put, List.setIfInBounds_toArray, List.set_cons_zero, List.set_cons_succ]
              refine Segs.WP.val 4 rfl (some 24) (.slice (some ⟨by_, oy, none⟩) (y.length + 1) cy) rfl (by kernel_rfl) (fun WW h => by kernel_rfl) ?_
              simp only [Act.put, List.setIfInBounds_toArray, List.set_cons_zero, List.set_cons_succ]
              refine Segs.WP.val 5 rfl (some 25) (.pointer (some ⟨by_, oy, none⟩)) rfl (by kernel_rfl) (fun WW h => ix0 by_ oy (y.length + 1) cy rfl (by kernel_rfl) (by kernel_rfl) (Nat.succ_pos _)) ?_
              simp only [Act.put, List.setIfInBounds_toArray, List.set_cons_zero, List.set_cons_succ]
              refine Segs.WP.val 6 rfl (some 26) (.pointer (some ⟨by_, (oy + 1), none⟩)) rfl (by kernel_rfl) (fun WW h => by kernel_rfl) ?_
              simp only [Act.put, List.setIfInBounds_toArray, List.set_cons_zero, List.set_cons_succ]
              refine Segs.WP.val 7 rfl (some 27) (.string yv) rfl (by kernel_rfl) (fun WW h => Segs.run_cell 9 (.tmp 26) rfl by_ (oy + 1) (by kernel_rfl) _ (isAggStr _) (BV.out WW (B2.out.call h).1)) ?_
              simp only [Act.put, List.setIfInBounds_toArray, List.set_cons_zero, List.set_cons_succ]
              refine Segs.WP.val 8 rfl (some 28) (.bool true) rfl (by kernel_rfl) (fun WW h => run_nes rfl xv yv (by kernel_rfl) (by kernel_rfl) true VE.out) ?_
              simp only [Act.put, List.setIfInBounds_toArray, List.set_cons_zero, List.set_cons_succ]
              refine Segs.WP.fin (fun W3 hx => ?_)
              have B4 := Lib.hid (B2.out.call hx)
              have OD := Lib.hid (own_below OW.out hx)
              have BD := B4
              obtain ⟨wc, hwz⟩ : ∃ z, z = W3 := ⟨_, rfl⟩
              rw [← hwz] at OD BD ⊢
              clear hwz hx OW
              go_upto_region 6 with (fail)
              have OA : Hid (((wc.alloc (.cells #[.string yk, .string yv, .bool false] 58)).drew).ownsRow w2.heap.size 58 3 (.slice Ao done.length co) done.length (flatC done)) := Lib.hid (own_drewN (World.ownsRow.alloc OD.out _) 1)
              have BA : Hid (Bl w2.heap.size w2 ((wc.alloc (.cells #[.string yk, .string yv, .bool false] 58)).drew)) := Lib.hid ((BD.out.alloc _).drewN 1)
              have E0 : Hid (Below w2.heap.size w2 (wc.drew)) := Lib.hid (BD.out.drewN 1).1
              have E1 : Hid (Below w2.heap.size w2 ((wc.alloc (.cells #[.string yk, .string yv, .bool false] 58)).drew)) := Lib.hid BA.out.1
              have NC := Lib.hid (new_cells wc 58 [.string yk, .string yv, .bool false])
              have NC2 : Hid (∀ j y, ([.string yk, .string yv, .bool false] : List Value)[j]? = some y → ((wc.alloc (.cells #[.string yk, .string yv, .bool false] 58)).drew).cell? ⟨wc.heap.size, 0 + j, none⟩ = some y) := Lib.hid NC.out
              have N1 : Hid (done.length + 1 ≤ 1000000) := Lib.hid (by have := DL.out; omega)
              have OM : Hid (∀ y ∈ ([.string yk, .string yv, .bool false] : List Value), y.oneCell' = true) := Lib.hid (by intro y hy; simp only [List.mem_cons, List.not_mem_nil, or_false] at hy; rcases hy with rfl | rfl | rfl <;> rfl)
              have ST : Hid (∀ W, Below w2.heap.size w2 W → W.cell? ⟨by_, oy, none⟩ = some (.string yk) ∧ W.cell? ⟨by_, oy + 1, none⟩ = some (.string yv)) := Lib.hid (fun W hW => ⟨BK.out W hW, BV.out W hW⟩)
              clear NC
              go_region_held3 (fun W => W.cell? ⟨by_, oy, none⟩ = some (.string yk) ∧ W.cell? ⟨by_, oy + 1, none⟩ = some (.string yv))
                (first | (with_reducible exact ST.out _ E0.out) | (with_reducible exact ST.out _ E1.out) | (with_reducible exact ST.out _ E5.out))
                (first
                  | (refine step_append_own elemChg infoChg rfl (by decide) (by decide) rfl (.tmp 29) (.tmp 39) rfl rfl w2.heap.size _ _ (flatC done) wc.heap.size 0 1 1 [.string yk, .string yv, .bool false] rfl rfl OA.out rfl NC2.out OM.out N1.out BA.out.2 ?_; intro v5 wf own5 gr5 _; have b5 := BA.out.grownRow OA.out (Nat.le_refl _) gr5; have BE := Lib.hid b5; have OE := Lib.hid own5; have E5 := Lib.hid b5.1; clear own5 gr5 b5))
              have OE2 : Hid (wf.ownsRow w2.heap.size 58 3 v5 (done ++ [(⟨yk, yv, false⟩ : Chg)]).length (flatC (done ++ [(⟨yk, yv, false⟩ : Chg)]))) := Lib.hid (by rw [flatC_append, List.length_append]; exact OE.out)
              clear OA BA E0 E1 NC2 OM ST E5 OE
              obtain ⟨Ap, cp, hv5⟩ := own_shape OE2.out
              subst hv5
              have DL2 : Hid ((done ++ [(⟨yk, yv, false⟩ : Chg)]).length + x.length + y.length ≤ 2000) := Lib.hid (by have := DL.out; simp; omega)
              have DD2 : Hid ((done ++ [(⟨yk, yv, false⟩ : Chg)]) ++ diffL x y = diffL a b) := Lib.hid (by rw [List.append_assoc, List.singleton_append, ← DD.out, diffL_cc, if_neg HLT.out, if_neg HGT.out, if_neg HVE.out]; rfl)
              generalize done ++ [(⟨yk, yv, false⟩ : Chg)] = done2 at *
              have OD := OE2
              have BD := BE
              clear OE2 BE N1
              go_upto_region 7 with (fail)
              have OW : Hid ((wf.drew).ownsRow w2.heap.size 58 3 (.slice Ap done2.length cp) done2.length (flatC done2)) := Lib.hid (own_drewN OD.out 1)
              refine Segs.wp_region_perm Segs.Hist [(0, false), (1, false), (2, false), (3, false), (4, false), (5, false)] Segs.Hist.refl Segs.Hist.trans (by kernel_rfl) (by kernel_rfl) rfl (by kernel_rfl) (Segs.WP.out ?_)
              have B2 := Lib.hid BD.out.drew
              generalize wf.drew = W1 at B2 OW ⊢
              refine Segs.WP.val 0 rfl (some 41) (.slice (some ⟨bx, ox, none⟩) (x.length + 1) cx) rfl (by kernel_rfl) (fun WW h => by kernel_rfl) ?_
              simp only [Act.put, List.setIfInBounds_toArray, List.set_cons_zero, List.set_cons_succ]
              refine Segs.WP.val 1 rfl (some 42) (.slice Ax2 x.length (cx - 1)) rfl (by kernel_rfl) (fun WW h => run_slice1 rfl _ _ (by kernel_rfl) (SX.out WW)) ?_
              simp only [Act.put, List.setIfInBounds_toArray, List.set_cons_zero, List.set_cons_succ]
              refine Segs.WP.val 2 rfl (some 43) (.slice (some ⟨by_, oy, none⟩) (y.length + 1) cy) rfl (by kernel_rfl) (fun WW h => by kernel_rfl) ?_
              simp only [Act.put, List.setIfInBounds_toArray, List.set_cons_zero, List.set_cons_succ]
              refine Segs.WP.val 3 rfl (some 44) (.slice Ay2 y.length (cy - 1)) rfl (by kernel_rfl) (fun WW h => run_slice1 rfl _ _ (by kernel_rfl) (SY.out WW)) ?_
              simp only [Act.put, List.setIfInBounds_toArray, List.set_cons_zero, List.set_cons_succ]
              refine Segs.WP.val 4 rfl (some 0) (.slice Ax2 x.length (cx - 1)) rfl (by kernel_rfl) (fun WW h => by kernel_rfl) ?_
              simp only [Act.put, List.setIfInBounds_toArray, List.set_cons_zero, List.set_cons_succ]
              refine Segs.WP.val 5 rfl (some 1) (.slice Ay2 y.length (cy - 1)) rfl (by kernel_rfl) (fun WW h => by kernel_rfl) ?_
              simp only [Act.put, List.setIfInBounds_toArray, List.set_cons_zero, List.set_cons_succ]
              refine Segs.WP.fin (fun W3 hx => ?_)
              have B4 := Lib.hid (B2.out.call hx)
              have OD := Lib.hid (own_below OW.out hx)
              have BD := B4
              obtain ⟨we, hwz⟩ : ∃ z, z = W3 := ⟨_, rfl⟩
              rw [← hwz] at OD BD ⊢
              clear hwz hx OW
              go_wp2_with fail
              exact ⟨⟨x, y, _, EX2, EY2, by omega, by omega, DL2, OD, DD2, BD⟩, by show x.length + y.length < x.length + 1 + (y.length + 1); omega⟩
            · have VE : Hid (decide (¬ xv = yv) = false) := Lib.hid (by simp [hve])
              have HVE := Lib.hid hve
              clear hve
              have OW : Hid ((wb.drew).ownsRow w2.heap.size 58 3 (.slice Ao done.length co) done.length (flatC done)) := Lib.hid (own_drewN OD.out 1)
              refine Segs.wp_region_perm Segs.Hist [(0, false), (1, false), (2, false), (3, false), (4, false), (5, false), (6, false), (7, false), (8, false)] Segs.Hist.refl Segs.Hist.trans (by kernel_rfl) (by kernel_rfl) rfl (by kernel_rfl) (Segs.WP.out ?_)
              have B2 := Lib.hid BD.out.drew
              generalize wb.drew = W1 at B2 OW ⊢
              refine Segs.WP.val 0 rfl (some 20) (.slice (some ⟨bx, ox, none⟩) (x.length + 1) cx) rfl (by kernel_rfl) (fun WW h => by kernel_rfl) ?_
              simp only [Act.put, List.setIfInBounds_toArray, List.set_cons_zero, List.set_cons_succ]
              refine Segs.WP.val 1 rfl (some 21) (.pointer (some ⟨bx, ox, none⟩)) rfl (by kernel_rfl) (fun WW h => ix0 bx ox (x.length + 1) cx rfl (by kernel_rfl) (by kernel_rfl) (Nat.succ_pos _)) ?_
              simp only [Act.put, List.setIfInBounds_toArray, List.set_cons_zero, List.set_cons_succ]
              refine Segs.WP.val 2 rfl (some 22) (.pointer (some ⟨bx, (ox + 1), none⟩)) rfl (by kernel_rfl) (fun WW h => by kernel_rfl) ?_
              simp only [Act.put, List.setIfInBounds_toArray, List.set_cons_zero, List.set_cons_succ]
              refine Segs.WP.val 3 rfl (some 23) (.string xv) rfl (by kernel_rfl) (fun WW h => Segs.run_cell 9 (.tmp 22) rfl bx (ox + 1) (by kernel_rfl) _ (isAggStr _) (AV.out WW (B2.out.call h).1)) ?_
              simp only [Act.put, List.setIfInBounds_toArray, List.set_cons_zero, List.set_cons_succ]
              refine Segs.WP.val 4 rfl (some 24) (.slice (some ⟨by_, oy, none⟩) (y.length + 1) cy) rfl (by kernel_rfl) (fun WW h => by kernel_rfl) ?_
              simp only [Act.put, List.setIfInBounds_toArray, List.set_cons_zero, List.set_cons_succ]
              refine Segs.WP.val 5 rfl (some 25) (.pointer (some ⟨by_, oy, none⟩)) rfl (by kernel_rfl) (fun WW h => ix0 by_ oy (y.length + 1) cy rfl (by kernel_rfl) (by kernel_rfl) (Nat.succ_pos _)) ?_
              simp only [Act.put, List.setIfInBounds_toArray, List.set_cons_zero, List.set_cons_succ]
              refine Segs.WP.val 6 rfl (some 26) (.pointer (some ⟨by_, (oy + 1), none⟩)) rfl (by kernel_rfl) (fun WW h => by kernel_rfl) ?_
              simp only [Act.put, List.setIfInBounds_toArray, List.set_cons_zero, List.set_cons_succ]
              refine Segs.WP.val 7 rfl (some 27) (.string yv) rfl (by kernel_rfl) (fun WW h => Segs.run_cell 9 (.tmp 26) rfl by_ (oy + 1) (by kernel_rfl) _ (isAggStr _) (BV.out WW (B2.out.call h).1)) ?_
              simp only [Act.put, List.setIfInBounds_toArray, List.set_cons_zero, List.set_cons_succ]
              refine Segs.WP.val 8 rfl (some 28) (.bool false) rfl (by kernel_rfl) (fun WW h => run_nes rfl xv yv (by kernel_rfl) (by kernel_rfl) false VE.out) ?_
              simp only [Act.put, List.setIfInBounds_toArray, List.set_cons_zero, List.set_cons_succ]
              refine Segs.WP.fin (fun W3 hx => ?_)
              have B4 := Lib.hid (B2.out.call hx)
              have OD := Lib.hid (own_below OW.out hx)
              have BD := B4
              obtain ⟨wc, hwz⟩ : ∃ z, z = W3 := ⟨_, rfl⟩
              rw [← hwz] at OD BD ⊢
              clear hwz hx OW
              go_upto_region 7 with (fail)
              have OW : Hid ((wc.drew).ownsRow w2.heap.size 58 3 (.slice Ao done.length co) done.length (flatC done)) := Lib.hid (own_drewN OD.out 1)
              refine Segs.wp_region_perm Segs.Hist [(0, false), (1, false), (2, false), (3, false), (4, false), (5, false)] Segs.Hist.refl Segs.Hist.trans (by kernel_rfl) (by kernel_rfl) rfl (by kernel_rfl) (Segs.WP.out ?_)
              have B2 := Lib.hid BD.out.drew
              generalize wc.drew = W1 at B2 OW ⊢
              refine Segs.WP.val 0 rfl (some 41) (.slice (some ⟨bx, ox, none⟩) (x.length + 1) cx) rfl (by kernel_rfl) (fun WW h => by kernel_rfl) ?_
              simp only [Act.put, List.setIfInBounds_toArray, List.set_cons_zero, List.set_cons_succ]
              refine Segs.WP.val 1 rfl (some 42) (.slice Ax2 x.length (cx - 1)) rfl (by kernel_rfl) (fun WW h => run_slice1 rfl _ _ (by kernel_rfl) (SX.out WW)) ?_
              simp only [Act.put, List.setIfInBounds_toArray, List.set_cons_zero, List.set_cons_succ]
              refine Segs.WP.val 2 rfl (some 43) (.slice (some ⟨by_, oy, none⟩) (y.length + 1) cy) rfl (by kernel_rfl) (fun WW h => by kernel_rfl) ?_
              simp only [Act.put, List.setIfInBounds_toArray, List.set_cons_zero, List.set_cons_succ]
              refine Segs.WP.val 3 rfl (some 44) (.slice Ay2 y.length (cy - 1)) rfl (by kernel_rfl) (fun WW h => run_slice1 rfl _ _ (by kernel_rfl) (SY.out WW)) ?_
              simp only [Act.put, List.setIfInBounds_toArray, List.set_cons_zero, List.set_cons_succ]
              refine Segs.WP.val 4 rfl (some 0) (.slice Ax2 x.length (cx - 1)) rfl (by kernel_rfl) (fun WW h => by kernel_rfl) ?_
              simp only [Act.put, List.setIfInBounds_toArray, List.set_cons_zero, List.set_cons_succ]
              refine Segs.WP.val 5 rfl (some 1) (.slice Ay2 y.length (cy - 1)) rfl (by kernel_rfl) (fun WW h => by kernel_rfl) ?_
              simp only [Act.put, List.setIfInBounds_toArray, List.set_cons_zero, List.set_cons_succ]
              refine Segs.WP.fin (fun W3 hx => ?_)
              have B4 := Lib.hid (B2.out.call hx)
              have OD := Lib.hid (own_below OW.out hx)
              have BD := B4
              obtain ⟨we, hwz⟩ : ∃ z, z = W3 := ⟨_, rfl⟩
              rw [← hwz] at OD BD ⊢
              clear hwz hx OW
              go_wp2_with fail
              refine ⟨⟨x, y, _, EX2, EY2, by omega, by omega, Lib.hid (by have := DL.out; omega), OD, Lib.hid ?_, BD⟩, by show x.length + y.length < x.length + 1 + (y.length + 1); omega⟩
              exact (by rw [← DD.out, diffL_cc, if_neg HLT.out, if_neg HGT.out, if_pos HVE.out]; rfl)
          · have LT2 : Hid (Op.bytesLess yk.toList xk.toList = true) := Lib.hid hgt
            have HGT := Lib.hid hgt
            clear hgt
            have OW : Hid ((wa.drew).ownsRow w2.heap.size 58 3 (.slice Ao done.length co) done.length (flatC done)) := Lib.hid (own_drewN OD.out 1)
            refine Segs.wp_region_perm Segs.Hist [(0, false), (1, false), (2, false), (3, false), (4, false), (5, false), (6, false), (7, false), (8, false), (9, false), (10, false), (11, false), (12, false), (13, false), (14, false)] Segs.Hist.refl Segs.Hist.trans (by kernel_rfl) (by kernel_rfl) rfl (by kernel_rfl) (Segs.WP.out ?_)
            have B2 := Lib.hid BD.out.drew
            generalize wa.drew = W1 at B2 OW ⊢
            refine Segs.WP.val 0 rfl (some 76) (.slice (some ⟨bx, ox, none⟩) (x.length + 1) cx) rfl (by kernel_rfl) (fun WW h => by kernel_rfl) ?_
            simp only [Act.put, List.setIfInBounds_toArray, List.set_cons_zero, List.set_cons_succ]
            refine Segs.WP.val 1 rfl (some 77) (.int .i64 (((x.length + 1 : Nat) : Int))) rfl (by kernel_rfl) (fun WW h => run_lens rfl ((some ⟨bx, ox, none⟩)) (x.length + 1) cx (by kernel_rfl) Tryz.underlying22) ?_
            simp only [Act.put, List.setIfInBounds_toArray, List.set_cons_zero, List.set_cons_succ]
            refine Segs.WP.val 2 rfl (some 78) (.bool false) rfl (by kernel_rfl) (fun WW h => run_eqi rfl _ _ (by kernel_rfl) (by kernel_rfl) false E78.out) ?_
            simp only [Act.put, List.setIfInBounds_toArray, List.set_cons_zero, List.set_cons_succ]
            refine Segs.WP.val 3 rfl (some 79) (.bool false) rfl (by kernel_rfl) (fun WW h => by kernel_rfl) ?_
            simp only [Act.put, List.setIfInBounds_toArray, List.set_cons_zero, List.set_cons_succ]
            refine Segs.WP.val 4 rfl (some 80) (.slice (some ⟨by_, oy, none⟩) (y.length + 1) cy) rfl (by kernel_rfl) (fun WW h => by kernel_rfl) ?_
            simp only [Act.put, List.setIfInBounds_toArray, List.set_cons_zero, List.set_cons_succ]
            refine Segs.WP.val 5 rfl (some 81) (.pointer (some ⟨by_, oy, none⟩)) rfl (by kernel_rfl) (fun WW h => ix0 by_ oy (y.length + 1) cy rfl (by kernel_rfl) (by kernel_rfl) (Nat.succ_pos _)) ?_
            simp only [Act.put, List.setIfInBounds_toArray, List.set_cons_zero, List.set_cons_succ]
            refine Segs.WP.val 6 rfl (some 82) (.pointer (some ⟨by_, oy, none⟩)) rfl (by kernel_rfl) (fun WW h => by kernel_rfl) ?_
            simp only [Act.put, List.setIfInBounds_toArray, List.set_cons_zero, List.set_cons_succ]
            refine Segs.WP.val 7 rfl (some 83) (.string yk) rfl (by kernel_rfl) (fun WW h => Segs.run_cell 9 (.tmp 82) rfl by_ oy (by kernel_rfl) _ (isAggStr _) (BK.out WW (B2.out.call h).1)) ?_
            simp only [Act.put, List.setIfInBounds_toArray, List.set_cons_zero, List.set_cons_succ]
            refine Segs.WP.val 8 rfl (some 84) (.slice (some ⟨bx, ox, none⟩) (x.length + 1) cx) rfl (by kernel_rfl) (fun WW h => by kernel_rfl) ?_
            simp only [Act.put, List.setIfInBounds_toArray, List.set_cons_zero, List.set_cons_succ]
            refine Segs.WP.val 9 rfl (some 85) (.pointer (some ⟨bx, ox, none⟩)) rfl (by kernel_rfl) (fun WW h => ix0 bx ox (x.length + 1) cx rfl (by kernel_rfl) (by kernel_rfl) (Nat.succ_pos _)) ?_
            simp only [Act.put, List.setIfInBounds_toArray, List.set_cons_zero, List.set_cons_succ]
            refine Segs.WP.val 10 rfl (some 86) (.pointer (some ⟨bx, ox, none⟩)) rfl (by kernel_rfl) (fun WW h => by kernel_rfl) ?_
            simp only [Act.put, List.setIfInBounds_toArray, List.set_cons_zero, List.set_cons_succ]
            refine Segs.WP.val 11 rfl (some 87) (.string xk) rfl (by kernel_rfl) (fun WW h => Segs.run_cell 9 (.tmp 86) rfl bx ox (by kernel_rfl) _ (isAggStr _) (AK.out WW (B2.out.call h).1)) ?_
            simp only [Act.put, List.setIfInBounds_toArray, List.set_cons_zero, List.set_cons_succ]
            refine Segs.WP.val 12 rfl (some 88) (.bool true) rfl (by kernel_rfl) (fun WW h => run_lts rfl yk xk (by kernel_rfl) (by kernel_rfl) true LT2.out) ?_
            simp only [Act.put, List.setIfInBounds_toArray, List.set_cons_zero, List.set_cons_succ]
            refine Segs.WP.val 13 rfl (some 89) (.bool true) rfl (by kernel_rfl) (fun WW h => by kernel_rfl) ?_
            simp only [Act.put, List.setIfInBounds_toArray, List.set_cons_zero, List.set_cons_succ]
            refine Segs.WP.val 14 rfl (some 75) (.bool true) rfl (by kernel_rfl) (fun WW h => by kernel_rfl) ?_
            simp only [Act.put, List.setIfInBounds_toArray, List.set_cons_zero, List.set_cons_succ]
            refine Segs.WP.fin (fun W3 hx => ?_)
            have B4 := Lib.hid (B2.out.call hx)
            have OD := Lib.hid (own_below OW.out hx)
            have BD := B4
            obtain ⟨wb, hwz⟩ : ∃ z, z = W3 := ⟨_, rfl⟩
            rw [← hwz] at OD BD ⊢
            clear hwz hx OW
            go_upto_region 12 with (fail)
            have OA : Hid (((wb.alloc (.cells #[.string yk, .string yv, .bool false] 58)).drew).ownsRow w2.heap.size 58 3 (.slice Ao done.length co) done.length (flatC done)) := Lib.hid (own_drewN (World.ownsRow.alloc OD.out _) 1)
            have BA : Hid (Bl w2.heap.size w2 ((wb.alloc (.cells #[.string yk, .string yv, .bool false] 58)).drew)) := Lib.hid ((BD.out.alloc _).drewN 1)
            have E0 : Hid (Below w2.heap.size w2 (wb.drew)) := Lib.hid (BD.out.drewN 1).1
            have E1 : Hid (Below w2.heap.size w2 ((wb.alloc (.cells #[.string yk, .string yv, .bool false] 58)).drew)) := Lib.hid BA.out.1
            have NC := Lib.hid (new_cells wb 58 [.string yk, .string yv, .bool false])
            have NC2 : Hid (∀ j y, ([.string yk, .string yv, .bool false] : List Value)[j]? = some y → ((wb.alloc (.cells #[.string yk, .string yv, .bool false] 58)).drew).cell? ⟨wb.heap.size, 0 + j, none⟩ = some y) := Lib.hid NC.out
            have N1 : Hid (done.length + 1 ≤ 1000000) := Lib.hid (by have := DL.out; omega)
            have OM : Hid (∀ y ∈ ([.string yk, .string yv, .bool false] : List Value), y.oneCell' = true) := Lib.hid (by intro y hy; simp only [List.mem_cons, List.not_mem_nil, or_false] at hy; rcases hy with rfl | rfl | rfl <;> rfl)
            have ST : Hid (∀ W, Below w2.heap.size w2 W → W.cell? ⟨by_, oy, none⟩ = some (.string yk) ∧ W.cell? ⟨by_, oy + 1, none⟩ = some (.string yv)) := Lib.hid (fun W hW => ⟨BK.out W hW, BV.out W hW⟩)
            clear NC
            go_region_held3 (fun W => W.cell? ⟨by_, oy, none⟩ = some (.string yk) ∧ W.cell? ⟨by_, oy + 1, none⟩ = some (.string yv))
              (first | (with_reducible exact ST.out _ E0.out) | (with_reducible exact ST.out _ E1.out) | (with_reducible exact ST.out _ E5.out))
              (first
                | (refine step_append_own elemChg infoChg rfl (by decide) (by decide) rfl (.tmp 90) (.tmp 100) rfl rfl w2.heap.size _ _ (flatC done) wb.heap.size 0 1 1 [.string yk, .string yv, .bool false] rfl rfl OA.out rfl NC2.out OM.out N1.out BA.out.2 ?_; intro v5 wc own5 gr5 _; have b5 := BA.out.grownRow OA.out (Nat.le_refl _) gr5; have BE := Lib.hid b5; have OE := Lib.hid own5; have E5 := Lib.hid b5.1; clear own5 gr5 b5))
            have OE2 : Hid (wc.ownsRow w2.heap.size 58 3 v5 (done ++ [(⟨yk, yv, false⟩ : Chg)]).length (flatC (done ++ [(⟨yk, yv, false⟩ : Chg)]))) := Lib.hid (by rw [flatC_append, List.length_append]; exact OE.out)
            clear OA BA E0 E1 NC2 OM ST E5 OE
            have sy := SY.out
            go_wp2_with fail
            refine ⟨⟨_, y, _, EX, EY2, by simp; omega, by omega, Lib.hid (by have := DL.out; simp; omega), OE2, Lib.hid ?_, BE⟩, by show x.length + 1 + y.length < x.length + 1 + (y.length + 1); omega⟩
            rw [List.append_assoc, List.singleton_append]
            exact (by rw [← DD.out, diffL_cc, if_neg HLT.out, if_pos HGT.out])
        · have LT : Hid (Op.bytesLess xk.toList yk.toList = true) := Lib.hid hlt
          have HLT := Lib.hid hlt
          clear hlt
          go_upto_region 8 with (fail)
          have OW : Hid ((wr.drew).ownsRow w2.heap.size 58 3 (.slice Ao done.length co) done.length (flatC done)) := Lib.hid (own_drewN OD.out 1)
          refine Segs.wp_region_perm Segs.Hist [(0, false), (1, false), (2, false), (3, false), (4, false), (5, false), (6, false), (7, false), (8, false), (9, false), (10, false), (11, false), (12, false), (13, false), (14, false), (15, false), (16, false), (17, false), (18, false), (19, false)] Segs.Hist.refl Segs.Hist.trans (by kernel_rfl) (by kernel_rfl) rfl (by kernel_rfl) (Segs.WP.out ?_)
          have B2 := Lib.hid BD.out.drew
          generalize wr.drew = W1 at B2 OW ⊢
          refine Segs.WP.val 0 rfl (some 46) (.slice (some ⟨by_, oy, none⟩) (y.length + 1) cy) rfl (by kernel_rfl) (fun WW h => by kernel_rfl) ?_
          simp only [Act.put, List.setIfInBounds_toArray, List.set_cons_zero, List.set_cons_succ]
          refine Segs.WP.val 1 rfl (some 47) (.int .i64 (((y.length + 1 : Nat) : Int))) rfl (by kernel_rfl) (fun WW h => run_lens rfl ((some ⟨by_, oy, none⟩)) (y.length + 1) cy (by kernel_rfl) Tryz.underlying22) ?_
          simp only [Act.put, List.setIfInBounds_toArray, List.set_cons_zero, List.set_cons_succ]
          refine Segs.WP.val 2 rfl (some 48) (.bool false) rfl (by kernel_rfl) (fun WW h => run_eqi rfl _ _ (by kernel_rfl) (by kernel_rfl) false E48.out) ?_
          simp only [Act.put, List.setIfInBounds_toArray, List.set_cons_zero, List.set_cons_succ]
          refine Segs.WP.val 3 rfl (some 49) (.bool false) rfl (by kernel_rfl) (fun WW h => by kernel_rfl) ?_
          simp only [Act.put, List.setIfInBounds_toArray, List.set_cons_zero, List.set_cons_succ]
          refine Segs.WP.val 4 rfl (some 50) (.slice (some ⟨bx, ox, none⟩) (x.length + 1) cx) rfl (by kernel_rfl) (fun WW h => by kernel_rfl) ?_
          simp only [Act.put, List.setIfInBounds_toArray, List.set_cons_zero, List.set_cons_succ]
          refine Segs.WP.val 5 rfl (some 51) (.int .i64 (((x.length + 1 : Nat) : Int))) rfl (by kernel_rfl) (fun WW h => run_lens rfl ((some ⟨bx, ox, none⟩)) (x.length + 1) cx (by kernel_rfl) Tryz.underlying22) ?_
          simp only [Act.put, List.setIfInBounds_toArray, List.set_cons_zero, List.set_cons_succ]
          refine Segs.WP.val 6 rfl (some 52) (.bool true) rfl (by kernel_rfl) (fun WW h => run_gti rfl _ _ (by kernel_rfl) (by kernel_rfl) true E52.out) ?_
          simp only [Act.put, List.setIfInBounds_toArray, List.set_cons_zero, List.set_cons_succ]
          refine Segs.WP.val 7 rfl (some 53) (.bool true) rfl (by kernel_rfl) (fun WW h => by kernel_rfl) ?_
          simp only [Act.put, List.setIfInBounds_toArray, List.set_cons_zero, List.set_cons_succ]
          refine Segs.WP.val 8 rfl (some 54) (.slice (some ⟨bx, ox, none⟩) (x.length + 1) cx) rfl (by kernel_rfl) (fun WW h => by kernel_rfl) ?_
          simp only [Act.put, List.setIfInBounds_toArray, List.set_cons_zero, List.set_cons_succ]
          refine Segs.WP.val 9 rfl (some 55) (.pointer (some ⟨bx, ox, none⟩)) rfl (by kernel_rfl) (fun WW h => ix0 bx ox (x.length + 1) cx rfl (by kernel_rfl) (by kernel_rfl) (Nat.succ_pos _)) ?_
          simp only [Act.put, List.setIfInBounds_toArray, List.set_cons_zero, List.set_cons_succ]
          refine Segs.WP.val 10 rfl (some 56) (.pointer (some ⟨bx, ox, none⟩)) rfl (by kernel_rfl) (fun WW h => by kernel_rfl) ?_
          simp only [Act.put, List.setIfInBounds_toArray, List.set_cons_zero, List.set_cons_succ]
          refine Segs.WP.val 11 rfl (some 57) (.string xk) rfl (by kernel_rfl) (fun WW h => Segs.run_cell 9 (.tmp 56) rfl bx ox (by kernel_rfl) _ (isAggStr _) (AK.out WW (B2.out.call h).1)) ?_
          simp only [Act.put, List.setIfInBounds_toArray, List.set_cons_zero, List.set_cons_succ]
          refine Segs.WP.val 12 rfl (some 58) (.slice (some ⟨by_, oy, none⟩) (y.length + 1) cy) rfl (by kernel_rfl) (fun WW h => by kernel_rfl) ?_
          simp only [Act.put, List.setIfInBounds_toArray, List.set_cons_zero, List.set_cons_succ]
          refine Segs.WP.val 13 rfl (some 59) (.pointer (some ⟨by_, oy, none⟩)) rfl (by kernel_rfl) (fun WW h => ix0 by_ oy (y.length + 1) cy rfl (by kernel_rfl) (by kernel_rfl) (Nat.succ_pos _)) ?_
          simp only [Act.put, List.setIfInBounds_toArray, List.set_cons_zero, List.set_cons_succ]
          refine Segs.WP.val 14 rfl (some 60) (.pointer (some ⟨by_, oy, none⟩)) rfl (by kernel_rfl) (fun WW h => by kernel_rfl) ?_
          simp only [Act.put, List.setIfInBounds_toArray, List.set_cons_zero, List.set_cons_succ]
          refine Segs.WP.val 15 rfl (some 61) (.string yk) rfl (by kernel_rfl) (fun WW h => Segs.run_cell 9 (.tmp 60) rfl by_ oy (by kernel_rfl) _ (isAggStr _) (BK.out WW (B2.out.call h).1)) ?_
          simp only [Act.put, List.setIfInBounds_toArray, List.set_cons_zero, List.set_cons_succ]
          refine Segs.WP.val 16 rfl (some 62) (.bool true) rfl (by kernel_rfl) (fun WW h => run_lts rfl xk yk (by kernel_rfl) (by kernel_rfl) true LT.out) ?_
          simp only [Act.put, List.setIfInBounds_toArray, List.set_cons_zero, List.set_cons_succ]
          refine Segs.WP.val 17 rfl (some 63) (.bool true) rfl (by kernel_rfl) (fun WW h => by kernel_rfl) ?_
          simp only [Act.put, List.setIfInBounds_toArray, List.set_cons_zero, List.set_cons_succ]
          refine Segs.WP.val 18 rfl (some 64) (.bool true) rfl (by kernel_rfl) (fun WW h => by kernel_rfl) ?_
          simp only [Act.put, List.setIfInBounds_toArray, List.set_cons_zero, List.set_cons_succ]
          refine Segs.WP.val 19 rfl (some 45) (.bool true) rfl (by kernel_rfl) (fun WW h => by kernel_rfl) ?_
          simp only [Act.put, List.setIfInBounds_toArray, List.set_cons_zero, List.set_cons_succ]
          refine Segs.WP.fin (fun W3 hx => ?_)
          have B4 := Lib.hid (B2.out.call hx)
          have OD := Lib.hid (own_below OW.out hx)
          have BD := B4
          obtain ⟨wa, hwz⟩ : ∃ z, z = W3 := ⟨_, rfl⟩
          rw [← hwz] at OD BD ⊢
          clear hwz hx OW
          have d0 := AK.out _ BD.out.1
          have BA := Lib.hid (BD.out.alloc (.cells #[.string xk, .string ⟨#[]⟩, .bool true] 58))
          have NC := Lib.hid (new_cells wa 58 [.string xk, .string ⟨#[]⟩, .bool true])
          have N1 : Hid (done.length + 1 ≤ 1000000) := Lib.hid (by have := DL.out; omega)
          have OM : Hid (∀ y ∈ ([.string xk, .string ⟨#[]⟩, .bool true] : List Value), y.oneCell' = true) := Lib.hid (by intro y hy; simp only [List.mem_cons, List.not_mem_nil, or_false] at hy; rcases hy with rfl | rfl | rfl <;> rfl)
          go_upto_region 10 with (at_builtin; (refine wpList_append_own (k := 3) (T := 58) (S := 35) elemChg infoChg rfl (by decide) (by decide) rfl _ _ rfl rfl w2.heap.size _ _ (flatC done) wa.heap.size 0 1 1 [.string xk, .string ⟨#[]⟩, .bool true] rfl rfl (World.ownsRow.alloc OD.out _) rfl NC.out OM.out N1.out BA.out.2 ?_; intro v5 wb own5 gr5 _; have b5 := BA.out.grownRow (World.ownsRow.alloc OD.out _) (Nat.le_refl _) gr5; have BE := Lib.hid b5; have OE := Lib.hid own5; clear own5 gr5 b5))
          have OE2 : Hid (wb.ownsRow w2.heap.size 58 3 v5 (done ++ [(⟨xk, ⟨#[]⟩, true⟩ : Chg)]).length (flatC (done ++ [(⟨xk, ⟨#[]⟩, true⟩ : Chg)]))) := Lib.hid (by rw [flatC_append, List.length_append]; exact OE.out)
          have sx := SX.out
          clear d0 NC OM BA OE
          go_wp2_with fail
          refine ⟨⟨x, _, _, EX2, EY, by omega, by simp; omega, Lib.hid (by have := DL.out; simp; omega), OE2, Lib.hid ?_, BE⟩, by show x.length + (y.length + 1) < x.length + 1 + (y.length + 1); omega⟩
          rw [List.append_assoc, List.singleton_append]
          exact (by rw [← DD.out, diffL_cc, if_pos HLT.out]; rfl)
end Go.Proofs.YtfeonjiiijdibaaGreatDoor
namespace Go.Proofs.YtfeonjiiijdibaaGreatDoor
open Go.RowKit Go.Proofs.Mdl
open Go.Maps (Keyed)
set_option linter.unusedVariables false
set_option linter.unusedSimpArgs false
theorem strKeyed : Keyed Tryz.prog 9 := Go.Maps.string_keyed Tryz.underlying9
theorem undMap : Tryz.prog.underlying 78 = some (.map 9 58) := Tryz.underlying78
/-- A key, as it reads. -/
def kl (s : ByteArray) : Go.Lit := .string s.data.toList
theorem kl_inj {s t : ByteArray} (h : kl s = kl t) : s = t := by
  have : s.data.toList = t.data.toList := by injection h
  exact ByteArray.ext (Array.toList_inj.1 this)
theorem kl_key (s : ByteArray) : WideAt.IsKeyLit (kl s) := trivial
theorem kl_same (s t : ByteArray) : (kl t).sameKey (kl s) = decide (t = s) := by
  by_cases e : t = s
  · subst e; rw [WideAt.sameKey_self (kl_key t)]; simp
  · rw [Maps.sameKey_ne (fun h => e (kl_inj h))]; simp [e]
def chVal (c : Chg) : Value := .agg #[.string c.k, .string c.v, .bool c.gone]
def chElem (v : Value) : Option (DataW Chg × List MemPlace) :=
  match v with
  | .agg cs => match cs.toList with
    | [.string k, .string v, .bool g] => some (.held ⟨k, v, g⟩, [])
    | _ => none
  | _ => none
theorem chElem_val (c : Chg) : chElem (chVal c) = some (.held c, []) := rfl
theorem chElem_inv {v : Value} {y : DataW Chg × List MemPlace} (h : chElem v = some y) : ∃ c, v = chVal c ∧ y = (.held c, []) := by
  unfold chElem at h
  split at h
  · next cs =>
    split at h
    · next k v g e =>
      cases h
      refine ⟨⟨k, v, g⟩, ?_, rfl⟩
      unfold chVal
      rw [← e]
    · cases h
  · cases h
theorem key_inv {key : Value} {l : Go.Lit} (h : keyOf Tryz.prog 9 key = some l) : ∃ x : ByteArray, key = .string x := by
  simp only [keyOf, Tryz.underlying9] at h
  cases key <;> simp [mapKey, Tryz.underlying9] at h
  exact ⟨_, rfl⟩
theorem key_inv2 {x : ByteArray} {l : Go.Lit} (h : keyOf Tryz.prog 9 (.string x) = some l) : x.size ≤ maxLen ∧ l = kl x := by
  simp only [keyOf, Tryz.underlying9] at h
  simp [mapKey, Tryz.underlying9] at h
  exact ⟨h.1, h.2.symm⟩
theorem zeroChg (w : World) : (zeroValue 58).run Tryz.prog w = .ok (chVal ⟨⟨#[]⟩, ⟨#[]⟩, false⟩) w := by kernel_rfl
/-- Block m is a map of what f tells. -/
def Mc (w : World) (m : Nat) (f : ByteArray → Option Chg) (n : Nat) : Prop :=
  ∃ D : DataW Chg, w.ownsMap Tryz.prog 9 chElem m n D ∧ (∀ s, Maps.has D (kl s) = (f s).isSome) ∧ ∀ s c, f s = some c → s.size ≤ maxLen ∧ ∀ z, D.atKey (kl s) z = .held c
section
variable {w w' : World} {m n : Nat} {f : ByteArray → Option Chg}
theorem Mc.lt (h : Mc w m f n) : m < w.heap.size := by
  obtain ⟨D, h, _⟩ := h
  exact h.lt
theorem Mc.far {S : Nat → Prop} (h : Mc w m f n) (k : Far S w w') (hm : ¬ S m) : Mc w' m f n := by
  obtain ⟨D, ⟨es, clock, hb, F, hs, hD⟩, r⟩ := h
  exact ⟨D, ⟨es, clock, (k.block m (Array.getElem?_eq_some_iff.1 hb).1 hm).trans hb, F, hs, hD⟩, r⟩
theorem Mc.below (h : Mc w m f n) (k : Below w.heap.size w w') : Mc w' m f n := h.far (far_of_below k) (fun h => h)
theorem Mc.new (w : World) : Mc (w.alloc (.map #[] 0)) w.heap.size (fun _ => none) 0 :=
  ⟨_, World.ownsMap_made w _ _ _, fun s => rfl, fun s c h => by cases h⟩
theorem Mc.look (h : Mc w m f n) (s : ByteArray) (hs : s.size ≤ maxLen) :
    ∃ c, (Instr.lookup 78 (.map (some m)) (.string s) true).run Tryz.prog w = .ok (.tuple #[chVal c, .bool (f s).isSome]) w := by
  obtain ⟨D, h, hh, ha⟩ := h
  obtain ⟨v, ps, hrun, hv⟩ := h.look_ok strKeyed undMap (zeroChg w) (chElem_val _) (Go.WideMaps.keyOf_string_mk Tryz.underlying9 hs)
  obtain ⟨c, rfl, _⟩ := chElem_inv hv
  exact ⟨c, by rw [hrun, show Maps.has D (Go.Lit.string s.data.toList) = _ from hh s]⟩
theorem Mc.put (h : Mc w m f n) (c : Chg) (hs : c.k.size ≤ maxLen) (hl : n < maxLen) :
    ∃ w', (Instr.mapUpdate 78 (.map (some m)) (.string c.k) (chVal c)).run Tryz.prog w = .ok () w' ∧ Mc w' m (fun s => if c.k = s then some c else f s) (n + 1) ∧ w.grownBy w' (some m) := by
  obtain ⟨D, h, hh, ha⟩ := h
  obtain ⟨w', hrun, hown, hg⟩ := h.update (val := chVal c) strKeyed undMap hl (Go.WideMaps.keyOf_string_mk Tryz.underlying9 hs) (chElem_val c)
  refine ⟨w', hrun, ⟨_, hown, ?_, ?_⟩, hg⟩
  · intro t
    by_cases e : c.k = t
    · subst e
      show _ = (if c.k = c.k then some c else f c.k).isSome
      rw [if_pos rfl]
      exact Maps.has_put_same h.isMap (kl_key c.k) _
    · show _ = (if c.k = t then some c else f t).isSome
      rw [if_neg e, ← hh]
      exact Maps.has_put_other (fun h => e (kl_inj h).symm) _
  · intro t d hd
    replace hd : (if c.k = t then some c else f t) = some d := hd
    by_cases e : c.k = t
    · subst e
      rw [if_pos rfl] at hd
      cases hd
      exact ⟨hs, fun z => Maps.atKey_put_same h.isMap (kl_key c.k) _ _⟩
    · rw [if_neg e] at hd
      obtain ⟨h1, h2⟩ := ha t d hd
      refine ⟨h1, fun z => ?_⟩
      rw [← h2 z]
      exact Maps.atKey_put_other (fun h => e (kl_inj h).symm) _ _
end
end Go.Proofs.YtfeonjiiijdibaaGreatDoor

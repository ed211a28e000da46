/-
  canon.Check (written by makers/mdlcheck.py).
-/
import Derived.Test.YtdahhnefcageeaaMdlShow
import Derived.Test.YtdahhnefcageeaaRunOps
import Derived.Test.YtdahhnefcageeaaWalkQ
import Derived.Deep.Cut
namespace Go.Proofs.Mdl
theorem adj_bad {l : List Ent} {k : Nat} {x : Ent} (hx : l[k]? = some x) (h : ¬ (entOk x = true ∧ ∀ i (y : Ent), k = i + 1 → l[i]? = some y → ltB y.k x.k = true)) : adj l = false := by
  rw [Bool.eq_false_iff]
  intro ha
  exact h ((adj_iff l).1 ha k x hx)
end Go.Proofs.Mdl
namespace Go.Proofs.Ytdahhnefcageeaa
open Go.RowKit Go.Proofs.Mdl
set_option linter.unusedVariables false
set_option linter.unusedSimpArgs false
theorem sizeEnt (W : World) : (sizeOf 84).run Try.prog W = .ok 2 W := by kernel_rfl
theorem sizeChg (W : World) : (sizeOf 67).run Try.prog W = .ok 3 W := by kernel_rfl
set_option maxRecDepth 100000 in
set_option maxHeartbeats 1000000 in
theorem check_any {w : World} {v : Value} {l : List Ent} (h : Es w v l) (hl : l.length ≤ 1000) :
    Calls Try.prog 38 #[v] w fun e w' => e = .returned (.int .i64 (checkN l)) ∧ Below w.heap.size w w' := by
  obtain ⟨A, c, rfl⟩ := h.shape
  obtain ⟨n, hn⟩ : ∃ n, n = l.length := ⟨_, rfl⟩
  rw [← hn] at h ⊢
  have HE := Lib.hid h
  have HN := Lib.hid hn
  have n1 : n ≤ 1000 := by omega
  obtain ⟨z, hz⟩ : ∃ z : Int, z = if 40 < n then 12 else 0 := ⟨_, rfl⟩
  have CM := Lib.hid (fun W => countMay_any n W)
  rw [← hz] at CM
  have HZ := Lib.hid hz
  clear h hn hl hz
  go_enter Try.func38, Try.ntmps38
  go_wp2_with fail
  go_loopw [3, 4, 7] (fun v3 v4 vi wr => ∃ k : Nat, vi = .int .i64 (k : Int) ∧ k ≤ n ∧ Hid (∀ j (x : Ent), j < k → l[j]? = some x → entOk x = true ∧ ∀ i (y : Ent), j = i + 1 → l[i]? = some y → ltB y.k x.k = true) ∧ Hid (Bl w.heap.size w wr)) (fun _ _ vi _ => n - (intOf vi).toNat)
  case atStart => exact ⟨0, rfl, Nat.zero_le _, Lib.hid (fun j x hj => by omega), Lib.hid (Bl.start w)⟩
  case round =>
    obtain ⟨k, rfl, hk, HV, HB⟩ := hrel
    by_cases hlt : k < n
    · obtain ⟨x, hx⟩ : ∃ x, l[k]? = some x := ⟨_, List.getElem?_eq_getElem (by rw [← HN.out]; exact hlt)⟩
      have HEr := Lib.hid (HE.out.below HB.out.1)
      obtain ⟨b, o, c', hv, hbl, d0, d1⟩ := HEr.out.at_ hx
      simp only [Value.slice.injEq] at hv
      obtain ⟨rfl, -, -⟩ := hv
      have HX := Lib.hid hx
      have i1 : (k : Int) < (n : Int) := by omega
      have wk : IntKind.i64.wrap ((k : Int) + 1) = (k : Int) + 1 := IntWalk.i64_in _ (by omega)
      obtain ⟨ek, ev⟩ := x
      simp only at d0 d1
      clear hx
      have EN := HN.out
      go_upto_region 4 with (fail)
      have BW := Lib.hid (HB.out.alloc (.cells #[.string ek, .string ev] 84))
      have BX := Lib.hid (Blk.new wr 84 #[.string ek, .string ev])
      have HE1 := Lib.hid (HEr.out.below ((Below.refl wr.heap.size wr).alloc (Nat.le_refl _) (.cells #[.string ek, .string ev] 84)))
      generalize wr.alloc (.cells #[.string ek, .string ev] 84) = w1 at *
      generalize wr.heap.size = g at *
      clear d0 d1 hbl HEr HB
      have CK : Hid (∀ W, Below w1.heap.size w1 W → W.cell? ⟨g, 0, none⟩ = some (.string ek)) := Lib.hid (fun W hW => by rw [(BX.out.below hW).cell]; rfl)
      have CV : Hid (∀ W, Below w1.heap.size w1 W → W.cell? ⟨g, 1, none⟩ = some (.string ev)) := Lib.hid (fun W hW => by rw [(BX.out.below hW).cell]; rfl)
      rcases hk' : keyOk ek with _ | _
      · have hk := hk'
        have KM : Hid (∀ W : World, Calls Try.prog 64 #[.string ek] W fun e w' => e = .returned (.bool false) ∧ Segs.Hist W w') := Lib.hid (fun W => (keyMay_any ek W).mono (fun e w' h => ⟨hk ▸ h.1, h.2 ▸ Segs.Hist.refl _⟩))
        have HBAD : Hid (adj l = false) := Lib.hid (adj_bad HX.out (fun h => by have := h.1; unfold entOk at this; rw [hk] at this; cases this))
        clear hk hk'
        have HB0 := Lib.hid (Bl.start w1)
        refine Segs.wp_region_perm Segs.Hist [(0, false), (1, false), (2, false), (3, false), (4, false), (5, false), (6, false), (7, false), (8, false), (9, false), (10, false), (11, false), (12, false), (13, false), (14, false), (15, false), (16, false), (17, false), (18, false), (19, false), (20, false), (21, false), (22, false), (23, false), (24, false)] Segs.Hist.refl Segs.Hist.trans (by kernel_rfl) (by kernel_rfl) rfl (by kernel_rfl) (Segs.WP.out ?_)
        have B2 := Lib.hid HB0.out.drew
        generalize w1.drew = W1 at B2 ⊢
        refine Segs.WP.val 0 rfl (some 12) (.pointer (some ⟨g, 0, none⟩)) rfl (by kernel_rfl) (fun WW h => by kernel_rfl) ?_
        simp only [Act.put, List.setIfInBounds_toArray, List.set_cons_zero, List.set_cons_succ]
        refine Segs.WP.val 1 rfl (some 13) (.string ek) rfl (by kernel_rfl) (fun WW h => Segs.run_cell 9 (.tmp 12) rfl g 0 (by kernel_rfl) _ (isAggStr _) (CK.out WW (B2.out.call h).1)) ?_
        simp only [Act.put, List.setIfInBounds_toArray, List.set_cons_zero, List.set_cons_succ]
        refine Segs.WP.call 2 rfl (some 14) 64 #[.string ek] (.bool false) rfl (by kernel_rfl) (fun W => by kernel_rfl) (fun WW h => (KM.out WW)) ?_
        simp only [Act.put, List.setIfInBounds_toArray, List.set_cons_zero, List.set_cons_succ]
        refine Segs.WP.val 3 rfl (some 15) (.bool true) rfl (by kernel_rfl) (fun WW h => by kernel_rfl) ?_
        simp only [Act.put, List.setIfInBounds_toArray, List.set_cons_zero, List.set_cons_succ]
        refine Segs.WP.val 4 rfl (some 16) (.bool true) rfl (by kernel_rfl) (fun WW h => by kernel_rfl) ?_
        simp only [Act.put, List.setIfInBounds_toArray, List.set_cons_zero, List.set_cons_succ]
        refine Segs.WP.not 5 rfl (some 17) rfl (by kernel_rfl) ?_
        simp only [Act.put, List.setIfInBounds_toArray, List.set_cons_zero, List.set_cons_succ]
        refine Segs.WP.not 6 rfl (some 18) rfl (by kernel_rfl) ?_
        simp only [Act.put, List.setIfInBounds_toArray, List.set_cons_zero, List.set_cons_succ]
        refine Segs.WP.not 7 rfl (some 19) rfl (by kernel_rfl) ?_
        simp only [Act.put, List.setIfInBounds_toArray, List.set_cons_zero, List.set_cons_succ]
        refine Segs.WP.not 8 rfl (some 20) rfl (by kernel_rfl) ?_
        simp only [Act.put, List.setIfInBounds_toArray, List.set_cons_zero, List.set_cons_succ]
        refine Segs.WP.val 9 rfl (some 21) (.bool true) rfl (by kernel_rfl) (fun WW h => by kernel_rfl) ?_
        simp only [Act.put, List.setIfInBounds_toArray, List.set_cons_zero, List.set_cons_succ]
        refine Segs.WP.val 10 rfl (some 22) (.bool true) rfl (by kernel_rfl) (fun WW h => by kernel_rfl) ?_
        simp only [Act.put, List.setIfInBounds_toArray, List.set_cons_zero, List.set_cons_succ]
        refine Segs.WP.not 11 rfl (some 23) rfl (by kernel_rfl) ?_
        simp only [Act.put, List.setIfInBounds_toArray, List.set_cons_zero, List.set_cons_succ]
        refine Segs.WP.not 12 rfl (some 24) rfl (by kernel_rfl) ?_
        simp only [Act.put, List.setIfInBounds_toArray, List.set_cons_zero, List.set_cons_succ]
        refine Segs.WP.not 13 rfl (some 25) rfl (by kernel_rfl) ?_
        simp only [Act.put, List.setIfInBounds_toArray, List.set_cons_zero, List.set_cons_succ]
        refine Segs.WP.not 14 rfl (some 26) rfl (by kernel_rfl) ?_
        simp only [Act.put, List.setIfInBounds_toArray, List.set_cons_zero, List.set_cons_succ]
        refine Segs.WP.not 15 rfl (some 27) rfl (by kernel_rfl) ?_
        simp only [Act.put, List.setIfInBounds_toArray, List.set_cons_zero, List.set_cons_succ]
        refine Segs.WP.not 16 rfl (some 28) rfl (by kernel_rfl) ?_
        simp only [Act.put, List.setIfInBounds_toArray, List.set_cons_zero, List.set_cons_succ]
        refine Segs.WP.not 17 rfl (some 29) rfl (by kernel_rfl) ?_
        simp only [Act.put, List.setIfInBounds_toArray, List.set_cons_zero, List.set_cons_succ]
        refine Segs.WP.not 18 rfl (some 30) rfl (by kernel_rfl) ?_
        simp only [Act.put, List.setIfInBounds_toArray, List.set_cons_zero, List.set_cons_succ]
        refine Segs.WP.not 19 rfl (some 31) rfl (by kernel_rfl) ?_
        simp only [Act.put, List.setIfInBounds_toArray, List.set_cons_zero, List.set_cons_succ]
        refine Segs.WP.not 20 rfl (some 32) rfl (by kernel_rfl) ?_
        simp only [Act.put, List.setIfInBounds_toArray, List.set_cons_zero, List.set_cons_succ]
        refine Segs.WP.not 21 rfl (some 33) rfl (by kernel_rfl) ?_
        simp only [Act.put, List.setIfInBounds_toArray, List.set_cons_zero, List.set_cons_succ]
        refine Segs.WP.not 22 rfl (some 34) rfl (by kernel_rfl) ?_
        simp only [Act.put, List.setIfInBounds_toArray, List.set_cons_zero, List.set_cons_succ]
        refine Segs.WP.not 23 rfl (some 35) rfl (by kernel_rfl) ?_
        simp only [Act.put, List.setIfInBounds_toArray, List.set_cons_zero, List.set_cons_succ]
        refine Segs.WP.val 24 rfl (some 36) (.bool true) rfl (by kernel_rfl) (fun WW h => by kernel_rfl) ?_
        simp only [Act.put, List.setIfInBounds_toArray, List.set_cons_zero, List.set_cons_succ]
        refine Segs.WP.fin (fun W3 hx => ?_)
        have B4 := Lib.hid (B2.out.call hx)
        clear hx
        go_wp2_with fail
        go_ret
        exact ⟨by rw [checkN, if_neg (by rw [HBAD.out]; exact Bool.false_ne_true)]; rfl, (Bl.call BW.out B4.out.1).1⟩
      · have hk := hk'
        rcases hv' : valOk ev with _ | _
        · have hv := hv'
          have KM : Hid (∀ W : World, Calls Try.prog 64 #[.string ek] W fun e w' => e = .returned (.bool true) ∧ Segs.Hist W w') := Lib.hid (fun W => (keyMay_any ek W).mono (fun e w' h => ⟨hk ▸ h.1, h.2 ▸ Segs.Hist.refl _⟩))
          have VM : Hid (∀ W : World, Calls Try.prog 65 #[.string ev] W fun e w' => e = .returned (.bool false) ∧ Segs.Hist W w') := Lib.hid (fun W => (valMay_any ev W).mono (fun e w' h => ⟨hv ▸ h.1, h.2 ▸ Segs.Hist.refl _⟩))
          have HBAD : Hid (adj l = false) := Lib.hid (adj_bad HX.out (fun h => by have := h.1; unfold entOk at this; rw [hk, hv] at this; cases this))
          clear hk hk' hv hv'
          have HB0 := Lib.hid (Bl.start w1)
          refine Segs.wp_region_perm Segs.Hist [(0, false), (1, false), (2, false), (3, false), (4, false), (5, false), (6, false), (7, false), (8, false), (9, false), (10, false), (11, false), (12, false), (13, false), (14, false), (15, false), (16, false), (17, false), (18, false), (19, false), (20, false), (21, false), (22, false), (23, false), (24, false)] Segs.Hist.refl Segs.Hist.trans (by kernel_rfl) (by kernel_rfl) rfl (by kernel_rfl) (Segs.WP.out ?_)
          have B2 := Lib.hid HB0.out.drew
          generalize w1.drew = W1 at B2 ⊢
          refine Segs.WP.val 0 rfl (some 12) (.pointer (some ⟨g, 0, none⟩)) rfl (by kernel_rfl) (fun WW h => by kernel_rfl) ?_
          simp only [Act.put, List.setIfInBounds_toArray, List.set_cons_zero, List.set_cons_succ]
          refine Segs.WP.val 1 rfl (some 13) (.string ek) rfl (by kernel_rfl) (fun WW h => Segs.run_cell 9 (.tmp 12) rfl g 0 (by kernel_rfl) _ (isAggStr _) (CK.out WW (B2.out.call h).1)) ?_
          simp only [Act.put, List.setIfInBounds_toArray, List.set_cons_zero, List.set_cons_succ]
          refine Segs.WP.call 2 rfl (some 14) 64 #[.string ek] (.bool true) rfl (by kernel_rfl) (fun W => by kernel_rfl) (fun WW h => (KM.out WW)) ?_
          simp only [Act.put, List.setIfInBounds_toArray, List.set_cons_zero, List.set_cons_succ]
          refine Segs.WP.val 3 rfl (some 15) (.bool false) rfl (by kernel_rfl) (fun WW h => by kernel_rfl) ?_
          simp only [Act.put, List.setIfInBounds_toArray, List.set_cons_zero, List.set_cons_succ]
          refine Segs.WP.val 4 rfl (some 16) (.bool false) rfl (by kernel_rfl) (fun WW h => by kernel_rfl) ?_
          simp only [Act.put, List.setIfInBounds_toArray, List.set_cons_zero, List.set_cons_succ]
          refine Segs.WP.val 5 rfl (some 17) (.pointer (some ⟨g, 1, none⟩)) rfl (by kernel_rfl) (fun WW h => by kernel_rfl) ?_
          simp only [Act.put, List.setIfInBounds_toArray, List.set_cons_zero, List.set_cons_succ]
          refine Segs.WP.val 6 rfl (some 18) (.string ev) rfl (by kernel_rfl) (fun WW h => Segs.run_cell 9 (.tmp 17) rfl g 1 (by kernel_rfl) _ (isAggStr _) (CV.out WW (B2.out.call h).1)) ?_
          simp only [Act.put, List.setIfInBounds_toArray, List.set_cons_zero, List.set_cons_succ]
          refine Segs.WP.call 7 rfl (some 19) 65 #[.string ev] (.bool false) rfl (by kernel_rfl) (fun W => by kernel_rfl) (fun WW h => (VM.out WW)) ?_
          simp only [Act.put, List.setIfInBounds_toArray, List.set_cons_zero, List.set_cons_succ]
          refine Segs.WP.val 8 rfl (some 20) (.bool true) rfl (by kernel_rfl) (fun WW h => by kernel_rfl) ?_
          simp only [Act.put, List.setIfInBounds_toArray, List.set_cons_zero, List.set_cons_succ]
          refine Segs.WP.val 9 rfl (some 21) (.bool true) rfl (by kernel_rfl) (fun WW h => by kernel_rfl) ?_
          simp only [Act.put, List.setIfInBounds_toArray, List.set_cons_zero, List.set_cons_succ]
          refine Segs.WP.val 10 rfl (some 22) (.bool true) rfl (by kernel_rfl) (fun WW h => by kernel_rfl) ?_
          simp only [Act.put, List.setIfInBounds_toArray, List.set_cons_zero, List.set_cons_succ]
          refine Segs.WP.not 11 rfl (some 23) rfl (by kernel_rfl) ?_
          simp only [Act.put, List.setIfInBounds_toArray, List.set_cons_zero, List.set_cons_succ]
          refine Segs.WP.not 12 rfl (some 24) rfl (by kernel_rfl) ?_
          simp only [Act.put, List.setIfInBounds_toArray, List.set_cons_zero, List.set_cons_succ]
          refine Segs.WP.not 13 rfl (some 25) rfl (by kernel_rfl) ?_
          simp only [Act.put, List.setIfInBounds_toArray, List.set_cons_zero, List.set_cons_succ]
          refine Segs.WP.not 14 rfl (some 26) rfl (by kernel_rfl) ?_
          simp only [Act.put, List.setIfInBounds_toArray, List.set_cons_zero, List.set_cons_succ]
          refine Segs.WP.not 15 rfl (some 27) rfl (by kernel_rfl) ?_
          simp only [Act.put, List.setIfInBounds_toArray, List.set_cons_zero, List.set_cons_succ]
          refine Segs.WP.not 16 rfl (some 28) rfl (by kernel_rfl) ?_
          simp only [Act.put, List.setIfInBounds_toArray, List.set_cons_zero, List.set_cons_succ]
          refine Segs.WP.not 17 rfl (some 29) rfl (by kernel_rfl) ?_
          simp only [Act.put, List.setIfInBounds_toArray, List.set_cons_zero, List.set_cons_succ]
          refine Segs.WP.not 18 rfl (some 30) rfl (by kernel_rfl) ?_
          simp only [Act.put, List.setIfInBounds_toArray, List.set_cons_zero, List.set_cons_succ]
          refine Segs.WP.not 19 rfl (some 31) rfl (by kernel_rfl) ?_
          simp only [Act.put, List.setIfInBounds_toArray, List.set_cons_zero, List.set_cons_succ]
          refine Segs.WP.not 20 rfl (some 32) rfl (by kernel_rfl) ?_
          simp only [Act.put, List.setIfInBounds_toArray, List.set_cons_zero, List.set_cons_succ]
          refine Segs.WP.not 21 rfl (some 33) rfl (by kernel_rfl) ?_
          simp only [Act.put, List.setIfInBounds_toArray, List.set_cons_zero, List.set_cons_succ]
          refine Segs.WP.not 22 rfl (some 34) rfl (by kernel_rfl) ?_
          simp only [Act.put, List.setIfInBounds_toArray, List.set_cons_zero, List.set_cons_succ]
          refine Segs.WP.not 23 rfl (some 35) rfl (by kernel_rfl) ?_
          simp only [Act.put, List.setIfInBounds_toArray, List.set_cons_zero, List.set_cons_succ]
          refine Segs.WP.val 24 rfl (some 36) (.bool true) rfl (by kernel_rfl) (fun WW h => by kernel_rfl) ?_
          simp only [Act.put, List.setIfInBounds_toArray, List.set_cons_zero, List.set_cons_succ]
          refine Segs.WP.fin (fun W3 hx => ?_)
          have B4 := Lib.hid (B2.out.call hx)
          clear hx
          go_wp2_with fail
          go_ret
          exact ⟨by rw [checkN, if_neg (by rw [HBAD.out]; exact Bool.false_ne_true)]; rfl, (Bl.call BW.out B4.out.1).1⟩
        · have hv := hv'
          have OKX : Hid (entOk ⟨ek, ev⟩ = true) := Lib.hid (by unfold entOk; rw [hk, hv]; rfl)
          by_cases hz : k = 0
          · have KM : Hid (∀ W : World, Calls Try.prog 64 #[.string ek] W fun e w' => e = .returned (.bool true) ∧ Segs.Hist W w') := Lib.hid (fun W => (keyMay_any ek W).mono (fun e w' h => ⟨hk ▸ h.1, h.2 ▸ Segs.Hist.refl _⟩))
            have VM : Hid (∀ W : World, Calls Try.prog 65 #[.string ev] W fun e w' => e = .returned (.bool true) ∧ Segs.Hist W w') := Lib.hid (fun W => (valMay_any ev W).mono (fun e w' h => ⟨hv ▸ h.1, h.2 ▸ Segs.Hist.refl _⟩))
            have Q0 := Lib.hid (show decide ((k : Int) > 0) = false from decide_eq_false (by omega))
            have HGO : Hid (∀ j (x : Ent), j < k + 1 → l[j]? = some x → entOk x = true ∧ ∀ i (y : Ent), j = i + 1 → l[i]? = some y → ltB y.k x.k = true) := Lib.hid (fun j x hj hx => by
              rcases Nat.lt_or_ge j k with h1 | h1
              · exact HV.out j x h1 hx
              · obtain rfl : j = k := by omega
                rw [HX.out] at hx
                cases hx
                exact ⟨OKX.out, fun i y hi => by omega⟩)
            clear hk hk' hv hv' hz
            have HB0 := Lib.hid (Bl.start w1)
            refine Segs.wp_region_perm Segs.Hist [(0, false), (1, false), (2, false), (3, false), (4, false), (5, false), (6, false), (7, false), (8, false), (9, false), (10, false), (11, false), (12, false), (13, false), (14, false), (15, false), (16, false), (17, false), (18, false), (19, false), (20, false), (21, false), (22, false), (23, false), (24, false)] Segs.Hist.refl Segs.Hist.trans (by kernel_rfl) (by kernel_rfl) rfl (by kernel_rfl) (Segs.WP.out ?_)
            have B2 := Lib.hid HB0.out.drew
            generalize w1.drew = W1 at B2 ⊢
            refine Segs.WP.val 0 rfl (some 12) (.pointer (some ⟨g, 0, none⟩)) rfl (by kernel_rfl) (fun WW h => by kernel_rfl) ?_
            simp only [Act.put, List.setIfInBounds_toArray, List.set_cons_zero, List.set_cons_succ]
            refine Segs.WP.val 1 rfl (some 13) (.string ek) rfl (by kernel_rfl) (fun WW h => Segs.run_cell 9 (.tmp 12) rfl g 0 (by kernel_rfl) _ (isAggStr _) (CK.out WW (B2.out.call h).1)) ?_
            simp only [Act.put, List.setIfInBounds_toArray, List.set_cons_zero, List.set_cons_succ]
            refine Segs.WP.call 2 rfl (some 14) 64 #[.string ek] (.bool true) rfl (by kernel_rfl) (fun W => by kernel_rfl) (fun WW h => (KM.out WW)) ?_
            simp only [Act.put, List.setIfInBounds_toArray, List.set_cons_zero, List.set_cons_succ]
            refine Segs.WP.val 3 rfl (some 15) (.bool false) rfl (by kernel_rfl) (fun WW h => by kernel_rfl) ?_
            simp only [Act.put, List.setIfInBounds_toArray, List.set_cons_zero, List.set_cons_succ]
            refine Segs.WP.val 4 rfl (some 16) (.bool false) rfl (by kernel_rfl) (fun WW h => by kernel_rfl) ?_
            simp only [Act.put, List.setIfInBounds_toArray, List.set_cons_zero, List.set_cons_succ]
            refine Segs.WP.val 5 rfl (some 17) (.pointer (some ⟨g, 1, none⟩)) rfl (by kernel_rfl) (fun WW h => by kernel_rfl) ?_
            simp only [Act.put, List.setIfInBounds_toArray, List.set_cons_zero, List.set_cons_succ]
            refine Segs.WP.val 6 rfl (some 18) (.string ev) rfl (by kernel_rfl) (fun WW h => Segs.run_cell 9 (.tmp 17) rfl g 1 (by kernel_rfl) _ (isAggStr _) (CV.out WW (B2.out.call h).1)) ?_
            simp only [Act.put, List.setIfInBounds_toArray, List.set_cons_zero, List.set_cons_succ]
            refine Segs.WP.call 7 rfl (some 19) 65 #[.string ev] (.bool true) rfl (by kernel_rfl) (fun W => by kernel_rfl) (fun WW h => (VM.out WW)) ?_
            simp only [Act.put, List.setIfInBounds_toArray, List.set_cons_zero, List.set_cons_succ]
            refine Segs.WP.val 8 rfl (some 20) (.bool false) rfl (by kernel_rfl) (fun WW h => by kernel_rfl) ?_
            simp only [Act.put, List.setIfInBounds_toArray, List.set_cons_zero, List.set_cons_succ]
            refine Segs.WP.val 9 rfl (some 21) (.bool false) rfl (by kernel_rfl) (fun WW h => by kernel_rfl) ?_
            simp only [Act.put, List.setIfInBounds_toArray, List.set_cons_zero, List.set_cons_succ]
            refine Segs.WP.val 10 rfl (some 22) (.bool false) rfl (by kernel_rfl) (fun WW h => by kernel_rfl) ?_
            simp only [Act.put, List.setIfInBounds_toArray, List.set_cons_zero, List.set_cons_succ]
            refine Segs.WP.val 11 rfl (some 23) (.int .i64 ((k : Int))) rfl (by kernel_rfl) (fun WW h => by kernel_rfl) ?_
            simp only [Act.put, List.setIfInBounds_toArray, List.set_cons_zero, List.set_cons_succ]
            refine Segs.WP.val 12 rfl (some 24) (.bool false) rfl (by kernel_rfl) (fun WW h => run_gti rfl _ _ (by kernel_rfl) (by kernel_rfl) false Q0.out) ?_
            simp only [Act.put, List.setIfInBounds_toArray, List.set_cons_zero, List.set_cons_succ]
            refine Segs.WP.val 13 rfl (some 25) (.bool false) rfl (by kernel_rfl) (fun WW h => by kernel_rfl) ?_
            simp only [Act.put, List.setIfInBounds_toArray, List.set_cons_zero, List.set_cons_succ]
            refine Segs.WP.not 14 rfl (some 26) rfl (by kernel_rfl) ?_
            simp only [Act.put, List.setIfInBounds_toArray, List.set_cons_zero, List.set_cons_succ]
            refine Segs.WP.not 15 rfl (some 27) rfl (by kernel_rfl) ?_
            simp only [Act.put, List.setIfInBounds_toArray, List.set_cons_zero, List.set_cons_succ]
            refine Segs.WP.not 16 rfl (some 28) rfl (by kernel_rfl) ?_
            simp only [Act.put, List.setIfInBounds_toArray, List.set_cons_zero, List.set_cons_succ]
            refine Segs.WP.not 17 rfl (some 29) rfl (by kernel_rfl) ?_
            simp only [Act.put, List.setIfInBounds_toArray, List.set_cons_zero, List.set_cons_succ]
            refine Segs.WP.not 18 rfl (some 30) rfl (by kernel_rfl) ?_
            simp only [Act.put, List.setIfInBounds_toArray, List.set_cons_zero, List.set_cons_succ]
            refine Segs.WP.not 19 rfl (some 31) rfl (by kernel_rfl) ?_
            simp only [Act.put, List.setIfInBounds_toArray, List.set_cons_zero, List.set_cons_succ]
            refine Segs.WP.not 20 rfl (some 32) rfl (by kernel_rfl) ?_
            simp only [Act.put, List.setIfInBounds_toArray, List.set_cons_zero, List.set_cons_succ]
            refine Segs.WP.not 21 rfl (some 33) rfl (by kernel_rfl) ?_
            simp only [Act.put, List.setIfInBounds_toArray, List.set_cons_zero, List.set_cons_succ]
            refine Segs.WP.not 22 rfl (some 34) rfl (by kernel_rfl) ?_
            simp only [Act.put, List.setIfInBounds_toArray, List.set_cons_zero, List.set_cons_succ]
            refine Segs.WP.val 23 rfl (some 35) (.bool false) rfl (by kernel_rfl) (fun WW h => by kernel_rfl) ?_
            simp only [Act.put, List.setIfInBounds_toArray, List.set_cons_zero, List.set_cons_succ]
            refine Segs.WP.val 24 rfl (some 36) (.bool false) rfl (by kernel_rfl) (fun WW h => by kernel_rfl) ?_
            simp only [Act.put, List.setIfInBounds_toArray, List.set_cons_zero, List.set_cons_succ]
            refine Segs.WP.fin (fun W3 hx => ?_)
            have B4 := Lib.hid (B2.out.call hx)
            clear hx
            obtain ⟨wz, hwz⟩ : ∃ z, z = W3 := ⟨_, rfl⟩
            have BZ := Lib.hid (Bl.call BW.out B4.out.1)
            rw [← hwz] at BZ ⊢
            clear hwz
            go_wp2_with fail
            exact ⟨⟨k + 1, by go_num, by omega, HGO, BZ⟩, by simp [intOf]; omega⟩
          · obtain ⟨kj, hkj⟩ : ∃ kj, k = kj + 1 := ⟨k - 1, by omega⟩
            obtain ⟨y, hy⟩ : ∃ y, l[kj]? = some y := ⟨_, List.getElem?_eq_getElem (by omega)⟩
            obtain ⟨b', o', c'', hv2, hb2, p0, p1⟩ := HE1.out.at_ hy
            simp only [Value.slice.injEq, Option.some.injEq, Addr.mk.injEq, and_true] at hv2
            obtain ⟨⟨rfl, rfl⟩, -⟩ := hv2
            obtain ⟨pk, pv⟩ := y
            simp only at p0 p1
            have CP : Hid (∀ W, Below w1.heap.size w1 W → W.cell? ⟨b, o + kj * 2, none⟩ = some (.string pk)) := Lib.hid (fun W hW => (hW.cell (p := ⟨b, _, none⟩) hb2).trans p0)
            have KJ := Lib.hid hkj
            have KL := Lib.hid (show k ≤ 1000 by omega)
            have KN := Lib.hid (show kj < n by omega)
            have HY := Lib.hid hy
            have Q0 := Lib.hid (show decide ((k : Int) > 0) = true from decide_eq_true (by omega))
            clear p0 p1 hb2 hy hkj hz
            rcases hr : ltB pk ek with _ | _
            · have KM : Hid (∀ W : World, Calls Try.prog 64 #[.string ek] W fun e w' => e = .returned (.bool true) ∧ Segs.Hist W w') := Lib.hid (fun W => (keyMay_any ek W).mono (fun e w' h => ⟨hk ▸ h.1, h.2 ▸ Segs.Hist.refl _⟩))
              have VM : Hid (∀ W : World, Calls Try.prog 65 #[.string ev] W fun e w' => e = .returned (.bool true) ∧ Segs.Hist W w') := Lib.hid (fun W => (valMay_any ev W).mono (fun e w' h => ⟨hv ▸ h.1, h.2 ▸ Segs.Hist.refl _⟩))
              have Q1 : Hid ((!Op.bytesLess pk.toList ek.toList) = true) := Lib.hid (by show (!ltB pk ek) = true; rw [hr]; rfl)
              have HBAD : Hid (adj l = false) := Lib.hid (adj_bad HX.out (fun h => by have := h.2 kj _ KJ.out HY.out; simp only at this; rw [hr] at this; cases this))
              clear hk hk' hv hv' hr
              have HB0 := Lib.hid (Bl.start w1)
              refine Segs.wp_region_perm Segs.Hist [(0, false), (1, false), (2, false), (3, false), (4, false), (5, false), (6, false), (7, false), (8, false), (9, false), (10, false), (11, false), (12, false), (13, false), (14, false), (15, false), (16, false), (17, false), (18, false), (19, false), (20, false), (21, false), (22, false), (23, false), (24, false)] Segs.Hist.refl Segs.Hist.trans (by kernel_rfl) (by kernel_rfl) rfl (by kernel_rfl) (Segs.WP.out ?_)
              have B2 := Lib.hid HB0.out.drew
              generalize w1.drew = W1 at B2 ⊢
              refine Segs.WP.val 0 rfl (some 12) (.pointer (some ⟨g, 0, none⟩)) rfl (by kernel_rfl) (fun WW h => by kernel_rfl) ?_
              simp only [Act.put, List.setIfInBounds_toArray, List.set_cons_zero, List.set_cons_succ]
              refine Segs.WP.val 1 rfl (some 13) (.string ek) rfl (by kernel_rfl) (fun WW h => Segs.run_cell 9 (.tmp 12) rfl g 0 (by kernel_rfl) _ (isAggStr _) (CK.out WW (B2.out.call h).1)) ?_
              simp only [Act.put, List.setIfInBounds_toArray, List.set_cons_zero, List.set_cons_succ]
              refine Segs.WP.call 2 rfl (some 14) 64 #[.string ek] (.bool true) rfl (by kernel_rfl) (fun W => by kernel_rfl) (fun WW h => (KM.out WW)) ?_
              simp only [Act.put, List.setIfInBounds_toArray, List.set_cons_zero, List.set_cons_succ]
              refine Segs.WP.val 3 rfl (some 15) (.bool false) rfl (by kernel_rfl) (fun WW h => by kernel_rfl) ?_
              simp only [Act.put, List.setIfInBounds_toArray, List.set_cons_zero, List.set_cons_succ]
              refine Segs.WP.val 4 rfl (some 16) (.bool false) rfl (by kernel_rfl) (fun WW h => by kernel_rfl) ?_
              simp only [Act.put, List.setIfInBounds_toArray, List.set_cons_zero, List.set_cons_succ]
              refine Segs.WP.val 5 rfl (some 17) (.pointer (some ⟨g, 1, none⟩)) rfl (by kernel_rfl) (fun WW h => by kernel_rfl) ?_
              simp only [Act.put, List.setIfInBounds_toArray, List.set_cons_zero, List.set_cons_succ]
              refine Segs.WP.val 6 rfl (some 18) (.string ev) rfl (by kernel_rfl) (fun WW h => Segs.run_cell 9 (.tmp 17) rfl g 1 (by kernel_rfl) _ (isAggStr _) (CV.out WW (B2.out.call h).1)) ?_
              simp only [Act.put, List.setIfInBounds_toArray, List.set_cons_zero, List.set_cons_succ]
              refine Segs.WP.call 7 rfl (some 19) 65 #[.string ev] (.bool true) rfl (by kernel_rfl) (fun W => by kernel_rfl) (fun WW h => (VM.out WW)) ?_
              simp only [Act.put, List.setIfInBounds_toArray, List.set_cons_zero, List.set_cons_succ]
              refine Segs.WP.val 8 rfl (some 20) (.bool false) rfl (by kernel_rfl) (fun WW h => by kernel_rfl) ?_
              simp only [Act.put, List.setIfInBounds_toArray, List.set_cons_zero, List.set_cons_succ]
              refine Segs.WP.val 9 rfl (some 21) (.bool false) rfl (by kernel_rfl) (fun WW h => by kernel_rfl) ?_
              simp only [Act.put, List.setIfInBounds_toArray, List.set_cons_zero, List.set_cons_succ]
              refine Segs.WP.val 10 rfl (some 22) (.bool false) rfl (by kernel_rfl) (fun WW h => by kernel_rfl) ?_
              simp only [Act.put, List.setIfInBounds_toArray, List.set_cons_zero, List.set_cons_succ]
              refine Segs.WP.val 11 rfl (some 23) (.int .i64 ((k : Int))) rfl (by kernel_rfl) (fun WW h => by kernel_rfl) ?_
              simp only [Act.put, List.setIfInBounds_toArray, List.set_cons_zero, List.set_cons_succ]
              refine Segs.WP.val 12 rfl (some 24) (.bool true) rfl (by kernel_rfl) (fun WW h => run_gti rfl _ _ (by kernel_rfl) (by kernel_rfl) true Q0.out) ?_
              simp only [Act.put, List.setIfInBounds_toArray, List.set_cons_zero, List.set_cons_succ]
              refine Segs.WP.val 13 rfl (some 25) (.bool true) rfl (by kernel_rfl) (fun WW h => by kernel_rfl) ?_
              simp only [Act.put, List.setIfInBounds_toArray, List.set_cons_zero, List.set_cons_succ]
              refine Segs.WP.val 14 rfl (some 26) (.slice (some ⟨b, o, none⟩) n c) rfl (by kernel_rfl) (fun WW h => by kernel_rfl) ?_
              simp only [Act.put, List.setIfInBounds_toArray, List.set_cons_zero, List.set_cons_succ]
              refine Segs.WP.val 15 rfl (some 27) (.int .i64 ((k : Int))) rfl (by kernel_rfl) (fun WW h => by kernel_rfl) ?_
              simp only [Act.put, List.setIfInBounds_toArray, List.set_cons_zero, List.set_cons_succ]
              refine Segs.WP.val 16 rfl (some 28) (.int .i64 ((kj : Int))) rfl (by kernel_rfl) (fun WW h => run_pred rfl k kj (by kernel_rfl) (by kernel_rfl) KJ.out KL.out) ?_
              simp only [Act.put, List.setIfInBounds_toArray, List.set_cons_zero, List.set_cons_succ]
              refine Segs.WP.val 17 rfl (some 29) (.pointer (some ⟨b, (o + kj * 2), none⟩)) rfl (by kernel_rfl) (fun WW h => run_indexK Try.underlying43 sizeEnt rfl b o n c kj (by kernel_rfl) (by kernel_rfl) KN.out) ?_
              simp only [Act.put, List.setIfInBounds_toArray, List.set_cons_zero, List.set_cons_succ]
              refine Segs.WP.val 18 rfl (some 30) (.pointer (some ⟨b, (o + kj * 2), none⟩)) rfl (by kernel_rfl) (fun WW h => by kernel_rfl) ?_
              simp only [Act.put, List.setIfInBounds_toArray, List.set_cons_zero, List.set_cons_succ]
              refine Segs.WP.val 19 rfl (some 31) (.string pk) rfl (by kernel_rfl) (fun WW h => Segs.run_cell 9 (.tmp 30) rfl b (o + kj * 2) (by kernel_rfl) _ (isAggStr _) (CP.out WW (B2.out.call h).1)) ?_
              simp only [Act.put, List.setIfInBounds_toArray, List.set_cons_zero, List.set_cons_succ]
              refine Segs.WP.val 20 rfl (some 32) (.pointer (some ⟨g, 0, none⟩)) rfl (by kernel_rfl) (fun WW h => by kernel_rfl) ?_
              simp only [Act.put, List.setIfInBounds_toArray, List.set_cons_zero, List.set_cons_succ]
              refine Segs.WP.val 21 rfl (some 33) (.string ek) rfl (by kernel_rfl) (fun WW h => Segs.run_cell 9 (.tmp 32) rfl g 0 (by kernel_rfl) _ (isAggStr _) (CK.out WW (B2.out.call h).1)) ?_
              simp only [Act.put, List.setIfInBounds_toArray, List.set_cons_zero, List.set_cons_succ]
              refine Segs.WP.val 22 rfl (some 34) (.bool true) rfl (by kernel_rfl) (fun WW h => run_ges rfl pk ek (by kernel_rfl) (by kernel_rfl) true Q1.out) ?_
              simp only [Act.put, List.setIfInBounds_toArray, List.set_cons_zero, List.set_cons_succ]
              refine Segs.WP.val 23 rfl (some 35) (.bool true) rfl (by kernel_rfl) (fun WW h => by kernel_rfl) ?_
              simp only [Act.put, List.setIfInBounds_toArray, List.set_cons_zero, List.set_cons_succ]
              refine Segs.WP.val 24 rfl (some 36) (.bool true) rfl (by kernel_rfl) (fun WW h => by kernel_rfl) ?_
              simp only [Act.put, List.setIfInBounds_toArray, List.set_cons_zero, List.set_cons_succ]
              refine Segs.WP.fin (fun W3 hx => ?_)
              have B4 := Lib.hid (B2.out.call hx)
              clear hx
              go_wp2_with fail
              go_ret
              exact ⟨by rw [checkN, if_neg (by rw [HBAD.out]; exact Bool.false_ne_true)]; rfl, (Bl.call BW.out B4.out.1).1⟩
            · have KM : Hid (∀ W : World, Calls Try.prog 64 #[.string ek] W fun e w' => e = .returned (.bool true) ∧ Segs.Hist W w') := Lib.hid (fun W => (keyMay_any ek W).mono (fun e w' h => ⟨hk ▸ h.1, h.2 ▸ Segs.Hist.refl _⟩))
              have VM : Hid (∀ W : World, Calls Try.prog 65 #[.string ev] W fun e w' => e = .returned (.bool true) ∧ Segs.Hist W w') := Lib.hid (fun W => (valMay_any ev W).mono (fun e w' h => ⟨hv ▸ h.1, h.2 ▸ Segs.Hist.refl _⟩))
              have Q1 : Hid ((!Op.bytesLess pk.toList ek.toList) = false) := Lib.hid (by show (!ltB pk ek) = false; rw [hr]; rfl)
              have HGO : Hid (∀ j (x : Ent), j < k + 1 → l[j]? = some x → entOk x = true ∧ ∀ i (y : Ent), j = i + 1 → l[i]? = some y → ltB y.k x.k = true) := Lib.hid (fun j x hj hx => by
                rcases Nat.lt_or_ge j k with h1 | h1
                · exact HV.out j x h1 hx
                · obtain rfl : j = k := by omega
                  rw [HX.out] at hx
                  cases hx
                  exact ⟨OKX.out, (fun i y hi hy => by
                    obtain rfl : i = kj := by have := KJ.out; omega
                    rw [HY.out] at hy
                    cases hy
                    exact hr)⟩)
              clear hk hk' hv hv' hr
              have HB0 := Lib.hid (Bl.start w1)
              refine Segs.wp_region_perm Segs.Hist [(0, false), (1, false), (2, false), (3, false), (4, false), (5, false), (6, false), (7, false), (8, false), (9, false), (10, false), (11, false), (12, false), (13, false), (14, false), (15, false), (16, false), (17, false), (18, false), (19, false), (20, false), (21, false), (22, false), (23, false), (24, false)] Segs.Hist.refl Segs.Hist.trans (by kernel_rfl) (by kernel_rfl) rfl (by kernel_rfl) (Segs.WP.out ?_)
              have B2 := Lib.hid HB0.out.drew
              generalize w1.drew = W1 at B2 ⊢
              refine Segs.WP.val 0 rfl (some 12) (.pointer (some ⟨g, 0, none⟩)) rfl (by kernel_rfl) (fun WW h => by kernel_rfl) ?_
              simp only [Act.put, List.setIfInBounds_toArray, List.set_cons_zero, List.set_cons_succ]
              refine Segs.WP.val 1 rfl (some 13) (.string ek) rfl (by kernel_rfl) (fun WW h => Segs.run_cell 9 (.tmp 12) rfl g 0 (by kernel_rfl) _ (isAggStr _) (CK.out WW (B2.out.call h).1)) ?_
              simp only [Act.put, List.setIfInBounds_toArray, List.set_cons_zero, List.set_cons_succ]
              refine Segs.WP.call 2 rfl (some 14) 64 #[.string ek] (.bool true) rfl (by kernel_rfl) (fun W => by kernel_rfl) (fun WW h => (KM.out WW)) ?_
              simp only [Act.put, List.setIfInBounds_toArray, List.set_cons_zero, List.set_cons_succ]
              refine Segs.WP.val 3 rfl (some 15) (.bool false) rfl (by kernel_rfl) (fun WW h => by kernel_rfl) ?_
              simp only [Act.put, List.setIfInBounds_toArray, List.set_cons_zero, List.set_cons_succ]
              refine Segs.WP.val 4 rfl (some 16) (.bool false) rfl (by kernel_rfl) (fun WW h => by kernel_rfl) ?_
              simp only [Act.put, List.setIfInBounds_toArray, List.set_cons_zero, List.set_cons_succ]
              refine Segs.WP.val 5 rfl (some 17) (.pointer (some ⟨g, 1, none⟩)) rfl (by kernel_rfl) (fun WW h => by kernel_rfl) ?_
              simp only [Act.put, List.setIfInBounds_toArray, List.set_cons_zero, List.set_cons_succ]
              refine Segs.WP.val 6 rfl (some 18) (.string ev) rfl (by kernel_rfl) (fun WW h => Segs.run_cell 9 (.tmp 17) rfl g 1 (by kernel_rfl) _ (isAggStr _) (CV.out WW (B2.out.call h).1)) ?_
              simp only [Act.put, List.setIfInBounds_toArray, List.set_cons_zero, List.set_cons_succ]
              refine Segs.WP.call 7 rfl (some 19) 65 #[.string ev] (.bool true) rfl (by kernel_rfl) (fun W => by kernel_rfl) (fun WW h => (VM.out WW)) ?_
              simp only [Act.put, List.setIfInBounds_toArray, List.set_cons_zero, List.set_cons_succ]
              refine Segs.WP.val 8 rfl (some 20) (.bool false) rfl (by kernel_rfl) (fun WW h => by kernel_rfl) ?_
              simp only [Act.put, List.setIfInBounds_toArray, List.set_cons_zero, List.set_cons_succ]
              refine Segs.WP.val 9 rfl (some 21) (.bool false) rfl (by kernel_rfl) (fun WW h => by kernel_rfl) ?_
              simp only [Act.put, List.setIfInBounds_toArray, List.set_cons_zero, List.set_cons_succ]
              refine Segs.WP.val 10 rfl (some 22) (.bool false) rfl (by kernel_rfl) (fun WW h => by kernel_rfl) ?_
              simp only [Act.put, List.setIfInBounds_toArray, List.set_cons_zero, List.set_cons_succ]
              refine Segs.WP.val 11 rfl (some 23) (.int .i64 ((k : Int))) rfl (by kernel_rfl) (fun WW h => by kernel_rfl) ?_
              simp only [Act.put, List.setIfInBounds_toArray, List.set_cons_zero, List.set_cons_succ]
              refine Segs.WP.val 12 rfl (some 24) (.bool true) rfl (by kernel_rfl) (fun WW h => run_gti rfl _ _ (by kernel_rfl) (by kernel_rfl) true Q0.out) ?_
              simp only [Act.put, List.setIfInBounds_toArray, List.set_cons_zero, List.set_cons_succ]
              refine Segs.WP.val 13 rfl (some 25) (.bool true) rfl (by kernel_rfl) (fun WW h => by kernel_rfl) ?_
              simp only [Act.put, List.setIfInBounds_toArray, List.set_cons_zero, List.set_cons_succ]
              refine Segs.WP.val 14 rfl (some 26) (.slice (some ⟨b, o, none⟩) n c) rfl (by kernel_rfl) (fun WW h => by kernel_rfl) ?_
              simp only [Act.put, List.setIfInBounds_toArray, List.set_cons_zero, List.set_cons_succ]
              refine Segs.WP.val 15 rfl (some 27) (.int .i64 ((k : Int))) rfl (by kernel_rfl) (fun WW h => by kernel_rfl) ?_
              simp only [Act.put, List.setIfInBounds_toArray, List.set_cons_zero, List.set_cons_succ]
              refine Segs.WP.val 16 rfl (some 28) (.int .i64 ((kj : Int))) rfl (by kernel_rfl) (fun WW h => run_pred rfl k kj (by kernel_rfl) (by kernel_rfl) KJ.out KL.out) ?_
              simp only [Act.put, List.setIfInBounds_toArray, List.set_cons_zero, List.set_cons_succ]
              refine Segs.WP.val 17 rfl (some 29) (.pointer (some ⟨b, (o + kj * 2), none⟩)) rfl (by kernel_rfl) (fun WW h => run_indexK Try.underlying43 sizeEnt rfl b o n c kj (by kernel_rfl) (by kernel_rfl) KN.out) ?_
              simp only [Act.put, List.setIfInBounds_toArray, List.set_cons_zero, List.set_cons_succ]
              refine Segs.WP.val 18 rfl (some 30) (.pointer (some ⟨b, (o + kj * 2), none⟩)) rfl (by kernel_rfl) (fun WW h => by kernel_rfl) ?_
              simp only [Act.put, List.setIfInBounds_toArray, List.set_cons_zero, List.set_cons_succ]
              refine Segs.WP.val 19 rfl (some 31) (.string pk) rfl (by kernel_rfl) (fun WW h => Segs.run_cell 9 (.tmp 30) rfl b (o + kj * 2) (by kernel_rfl) _ (isAggStr _) (CP.out WW (B2.out.call h).1)) ?_
              simp only [Act.put, List.setIfInBounds_toArray, List.set_cons_zero, List.set_cons_succ]
              refine Segs.WP.val 20 rfl (some 32) (.pointer (some ⟨g, 0, none⟩)) rfl (by kernel_rfl) (fun WW h => by kernel_rfl) ?_
              simp only [Act.put, List.setIfInBounds_toArray, List.set_cons_zero, List.set_cons_succ]
              refine Segs.WP.val 21 rfl (some 33) (.string ek) rfl (by kernel_rfl) (fun WW h => Segs.run_cell 9 (.tmp 32) rfl g 0 (by kernel_rfl) _ (isAggStr _) (CK.out WW (B2.out.call h).1)) ?_
              simp only [Act.put, List.setIfInBounds_toArray, List.set_cons_zero, List.set_cons_succ]
              refine Segs.WP.val 22 rfl (some 34) (.bool false) rfl (by kernel_rfl) (fun WW h => run_ges rfl pk ek (by kernel_rfl) (by kernel_rfl) false Q1.out) ?_
              simp only [Act.put, List.setIfInBounds_toArray, List.set_cons_zero, List.set_cons_succ]
              refine Segs.WP.val 23 rfl (some 35) (.bool false) rfl (by kernel_rfl) (fun WW h => by kernel_rfl) ?_
              simp only [Act.put, List.setIfInBounds_toArray, List.set_cons_zero, List.set_cons_succ]
              refine Segs.WP.val 24 rfl (some 36) (.bool false) rfl (by kernel_rfl) (fun WW h => by kernel_rfl) ?_
              simp only [Act.put, List.setIfInBounds_toArray, List.set_cons_zero, List.set_cons_succ]
              refine Segs.WP.fin (fun W3 hx => ?_)
              have B4 := Lib.hid (B2.out.call hx)
              clear hx
              obtain ⟨wz, hwz⟩ : ∃ z, z = W3 := ⟨_, rfl⟩
              have BZ := Lib.hid (Bl.call BW.out B4.out.1)
              rw [← hwz] at BZ ⊢
              clear hwz
              go_wp2_with fail
              exact ⟨⟨k + 1, by go_num, by omega, HGO, BZ⟩, by simp [intOf]; omega⟩
    · obtain rfl : k = n := by omega
      have GD : Hid (adj l = true) := Lib.hid ((adj_iff l).2 (fun j x hj => HV.out j x (by have := (List.getElem?_eq_some_iff.1 hj).1; have := HN.out; omega) hj))
      go_wp2_with fail
      refine (CM.out _).mono ?_
      rintro e w' ⟨rfl, rfl⟩
      go_wp2_with fail
      go_ret
      exact ⟨by rw [checkN, if_pos GD.out, ← HN.out, ← HZ.out]; rfl, HB.out.1⟩
end Go.Proofs.Ytdahhnefcageeaa

/-
  Package model: Commit (written by makers/mdlcommit.py).
-/
import Derived.Test.YtdahhnefcageeaaMdlUnpin
import Derived.Deep.CutRange
import Derived.Deep.RegionHeld3
namespace Go.Proofs.Mdl
def lastV (M : Mod) : Ver := M.all.getLast?.getD ⟨0, [], [], 0⟩
def addM (M : Mod) (es : List Ent) : Mod := ⟨M.w, M.n + 1, M.all ++ [⟨M.n, es, diffM (lastV M).e es, 0⟩]⟩
def commitM (M : Mod) (cs : List Chg) : Mod × Int × Int :=
  if validM M then
    if (applyM (lastV M).e cs).2 = 0 then
      if M.n = 1048576 then (M, 0, 12) else (keptM (addM M (applyM (lastV M).e cs).1), M.n, 0)
    else (M, 0, (applyM (lastV M).e cs).2)
  else (M, 0, 1)
theorem lastV_at {M : Mod} {m : Nat} (h : M.all.length = m + 1) : M.all[m]? = some (lastV M) := by
  unfold lastV
  rw [List.getLast?_eq_getElem?, h, Nat.add_sub_cancel]
  cases hx : M.all[m]? with
  | none => rw [List.getElem?_eq_none_iff] at hx; omega
  | some x => rfl
theorem applyM_cases (l : List Ent) (cs : List Chg) : (applyM l cs).2 = 0 ∨ (applyM l cs).2 = 1 ∨ (applyM l cs).2 = 12 := by
  unfold applyM
  split
  · split
    · split
      · exact .inr (.inr rfl)
      · exact .inl rfl
    · exact .inr (.inl rfl)
  · unfold checkN
    split
    · split
      · exact .inr (.inr rfl)
      · exact .inl rfl
    · exact .inr (.inl rfl)
end Go.Proofs.Mdl
namespace Go.Proofs.Ytdahhnefcageeaa
open Go.RowKit Go.Proofs.Mdl
set_option linter.unusedVariables false
set_option linter.unusedSimpArgs false
theorem put4 {w a : World} {B s : Nat} {T : TypeId} {a0 a1 a2 a3 : Value} (h : Blk w s T #[a0, a1, a2, a3]) (BW : Bl B a w) (hs : B ≤ s) (v0 v1 v2 v3 : Value) :
    ∃ W, W = (((w.setCell ⟨s, 0, none⟩ v0).setCell ⟨s, 1, none⟩ v1).setCell ⟨s, 2, none⟩ v2).setCell ⟨s, 3, none⟩ v3 ∧ Bl B a W ∧ Far (fun i => i = s) w W ∧ Blk W s T #[v0, v1, v2, v3] := by
  have b1 := BW.setCell (p := ⟨s, 0, none⟩) hs v0
  have b2 := b1.setCell (p := ⟨s, 1, none⟩) hs v1
  have b3 := b2.setCell (p := ⟨s, 2, none⟩) hs v2
  have b4 := b3.setCell (p := ⟨s, 3, none⟩) hs v3
  have f1 := (Far.refl (fun i => i = s) w).setCell (p := ⟨s, 0, none⟩) (fun _ => rfl) v0
  have f2 := f1.setCell (p := ⟨s, 1, none⟩) (fun _ => rfl) v1
  have f3 := f2.setCell (p := ⟨s, 2, none⟩) (fun _ => rfl) v2
  have f4 := f3.setCell (p := ⟨s, 3, none⟩) (fun _ => rfl) v3
  have := (((h.set 0 v0).set 1 v1).set 2 v2).set 3 v3
  exact ⟨_, rfl, b4, f4, this⟩
set_option maxRecDepth 100000 in
set_option maxHeartbeats 4000000 in
theorem commit_any {N : Nat → Prop} {w : World} {v vc : Value} {M : Mod} {cs : List Chg} (h : Md N w v M) (hc : Cs w vc cs) (hl : M.all.length ≤ 900) (hle : ∀ V ∈ M.all, V.e.length ≤ 1000 ∧ V.c.length ≤ 1000) (hcs : cs.length ≤ 1000) :
    Calls Try.prog 30 #[v, vc] w fun e w' => ∃ v', e = .returned (.tuple #[v', .int .i64 (commitM M cs).2.1, .int .i64 (commitM M cs).2.2]) ∧ Md (fun b => N b ∨ w.heap.size ≤ b) w' v' (commitM M cs).1 ∧ Below w.heap.size w w' := by
  have H := Lib.hid h
  have HC := Lib.hid hc
  obtain ⟨u, rfl, hv⟩ := h
  obtain ⟨A, c, rfl⟩ := hv.shape
  obtain ⟨Ac0, cc0, rfl⟩ := hc.shape
  obtain ⟨w2, g, p, hw, hg, hp, hb2, b1, b2⟩ := two_boxes w 24 24 #[.int .i64 M.w, .int .i64 M.n, .slice A M.all.length c] #[.int .i64 0, .int .i64 0, .slice none 0 0]
  have VD := Lib.hid (valid_any (H.out.below hb2) (Nat.le_trans hl (by decide)) (fun V hV => (hle V hV).1))
  have BW := Lib.hid (Bl.call (Bl.start w) hb2)
  have BG := Lib.hid b1
  have BP := Lib.hid b2
  have GW : Hid (w.heap.size ≤ g) := Lib.hid (by omega)
  have PW : Hid (w.heap.size ≤ p) := Lib.hid (by omega)
  have GP : Hid (¬ g = p) := Lib.hid (by omega)
  have q0 := b1.cell 0
  have q1 := b1.cell 1
  have q2 := b1.cell 2
  simp only [List.getElem?_toArray, List.getElem?_cons_succ, List.getElem?_cons_zero] at q0 q1 q2
  have VL := Lib.hid hv
  clear hv b1 b2 hc
  cases hvd : validM M with
  | false =>
    have HA : Hid (commitM M cs = (M, 0, 1)) := Lib.hid (by unfold commitM; rw [hvd]; rfl)
    rw [hvd] at VD
    clear hvd
    go_enter Try.func30, Try.ntmps30
    go_upto_region 1 with (fail)
    rw [← hw, ← hp, ← hg]
    clear hw hp hg
    go_wp2_with (go_at_call 17; refine VD.out.mono ?_; rintro e w3 ⟨rfl, hb⟩; have BG3 := Lib.hid (BG.out.below hb); have BP3 := Lib.hid (BP.out.below hb); have BW3 := Lib.hid (BW.out.call hb); clear hb q0 q1 q2; have q0 := BG3.out.cell 0; have q1 := BG3.out.cell 1; have q2 := BG3.out.cell 2; have p0 := BP3.out.cell 0; have p1 := BP3.out.cell 1; have p2 := BP3.out.cell 2; simp only [List.getElem?_toArray, List.getElem?_cons_succ, List.getElem?_cons_zero] at q0 q1 q2 p0 p1 p2; have f0 := BP3.out.frozen 0; have f1 := BP3.out.frozen 1; have f2 := BP3.out.frozen 2)
    obtain ⟨W', hW', bp', hM', bl'⟩ := back3 (g := g) H.out BP3.out BW3.out PW.out
    rw [← hW']
    refine bodyPost_ret (results_m3 rfl _ _ _ rfl rfl rfl bp') rfl ?_
    exact ⟨.agg #[.int .i64 M.w, .int .i64 M.n, .slice A M.all.length c], by rw [HA.out]; rfl, by rw [HA.out]; exact hM', bl'⟩
  | true =>
    rw [hvd] at VD
    obtain ⟨r1, r2, r3, r4, r5⟩ := rightM_iff.1 (valid_vgo hvd).1
    obtain ⟨m, hm⟩ : ∃ m, M.all.length = m + 1 := ⟨M.all.length - 1, by omega⟩
    have hV := lastV_at hm
    have HV := Lib.hid hV
    have LE := Lib.hid (hle _ (List.mem_of_getElem? hV))
    obtain ⟨b, o, c', ve, vc, hvs, hbl, he, hc, d0, d1, d2, d3⟩ := VL.out.at_ hV
    simp only [Value.slice.injEq] at hvs
    obtain ⟨rfl, -, -⟩ := hvs
    obtain ⟨L, hL⟩ : ∃ L, L = lastV M := ⟨_, rfl⟩
    have HLV := Lib.hid hL
    rw [← hL] at he hc d0 d3 LE HV
    obtain ⟨Ae, ce, rfl⟩ := he.toEs.shape
    obtain ⟨Ac, cc, rfl⟩ := hc.toCs.shape
    have HBL := Lib.hid hbl
    have D0 := Lib.hid d0
    have D1 := Lib.hid d1
    have D2 := Lib.hid d2
    have D3 := Lib.hid d3
    have AP := Lib.hid (fun W (hW : Below w.heap.size w W) => apply_any (he.toEs.below hW) (HC.out.below hW) LE.out.1 hcs)
    have HE := Lib.hid he
    have wm : IntKind.i64.wrap ((M.all.length : Int) - 1) = (m : Int) := by rw [show (M.all.length : Int) - 1 = (m : Int) by omega]; exact IntWalk.i64_in _ (by omega)
    have im : (m : Int) < (M.all.length : Int) := by omega
    have HM := Lib.hid hm
    clear hm
    obtain ⟨R, hR⟩ : ∃ R, R = applyM L.e cs := ⟨_, rfl⟩
    have HR := Lib.hid hR
    rw [← hR] at AP
    have ca := applyM_cases L.e cs
    rw [← hR] at ca
    obtain ⟨es, er⟩ := R
    simp only at AP ca
    clear hV hL hR d0 d1 d2 d3 he hc hbl
    by_cases her : er = 0
    · subst her
      by_cases hnx : M.n = 1048576
      · have HA : Hid (commitM M cs = (M, 0, 12)) := Lib.hid (by unfold commitM; rw [hvd, ← HLV.out, ← HR.out]; simp [hnx])
        have hnq : (M.n == 1048576) = true := beq_iff_eq.2 hnx
        clear hvd ca hnx
        go_enter Try.func30, Try.ntmps30
        go_upto_region 1 with (fail)
        rw [← hw, ← hp, ← hg]
        clear hw hp hg
        go_upto_region 4 with (go_at_call 17; refine VD.out.mono ?_; rintro e w3 ⟨rfl, hb⟩; have BG3 := Lib.hid (BG.out.below hb); have BP3 := Lib.hid (BP.out.below hb); have BW3 := Lib.hid (BW.out.call hb); clear hb q0 q1 q2; have q0 := BG3.out.cell 0; have q1 := BG3.out.cell 1; have q2 := BG3.out.cell 2; have p0 := BP3.out.cell 0; have p1 := BP3.out.cell 1; have p2 := BP3.out.cell 2; simp only [List.getElem?_toArray, List.getElem?_cons_succ, List.getElem?_cons_zero] at q0 q1 q2 p0 p1 p2; have f0 := BP3.out.frozen 0; have f1 := BP3.out.frozen 1; have f2 := BP3.out.frozen 2; have x0 := (BW3.out.1.cell (p := ⟨b, _, none⟩) HBL.out).trans D0.out; have x1 := (BW3.out.1.cell (p := ⟨b, _, none⟩) HBL.out).trans D1.out; have x2 := (BW3.out.1.cell (p := ⟨b, _, none⟩) HBL.out).trans D2.out; have x3 := (BW3.out.1.cell (p := ⟨b, _, none⟩) HBL.out).trans D3.out)
        have BG4 := Lib.hid (BG3.out.alloc (.cells #[.int .i64 L.b, .slice Ae L.e.length ce, .slice Ac L.c.length cc, .int .i64 L.p] 62))
        have BP4 := Lib.hid (BP3.out.alloc (.cells #[.int .i64 L.b, .slice Ae L.e.length ce, .slice Ac L.c.length cc, .int .i64 L.p] 62))
        have BW4 := Lib.hid (BW3.out.alloc (.cells #[.int .i64 L.b, .slice Ae L.e.length ce, .slice Ac L.c.length cc, .int .i64 L.p] 62))
        have BV4 := Lib.hid (Blk.new w3 62 #[.int .i64 L.b, .slice Ae L.e.length ce, .slice Ac L.c.length cc, .int .i64 L.p])
        have P3 := Lib.hid BP3.out.lt
        clear q0 q1 q2 p0 p1 p2 f0 f1 f2 x0 x1 x2 x3
        generalize w3.alloc (.cells #[.int .i64 L.b, .slice Ae L.e.length ce, .slice Ac L.c.length cc, .int .i64 L.p] 62) = w4 at *
        generalize w3.heap.size = s7 at *
        have y1 := BV4.out.cell 1
        simp only [List.getElem?_toArray, List.getElem?_cons_succ, List.getElem?_cons_zero] at y1
        go_wp2_with (go_at_call 29; refine (AP.out _ BW4.out.1).mono ?_; rintro e w5 ⟨v5, rfl, hes, hb⟩; have E5 := Lib.hid hes; have BG5 := Lib.hid (BG4.out.below hb); have BP5 := Lib.hid (BP4.out.below hb); have BW5 := Lib.hid (BW4.out.call hb); have BV5 := Lib.hid (BV4.out.below hb); have S45 := Lib.hid hb.size; clear hb hes y1; have q0 := BG5.out.cell 0; have q1 := BG5.out.cell 1; have q2 := BG5.out.cell 2; have p0 := BP5.out.cell 0; have p1 := BP5.out.cell 1; have p2 := BP5.out.cell 2; simp only [List.getElem?_toArray, List.getElem?_cons_succ, List.getElem?_cons_zero] at q0 q1 q2 p0 p1 p2; have f0 := BP5.out.frozen 0; have f1 := BP5.out.frozen 1; have f2 := BP5.out.frozen 2)
        obtain ⟨W', hW', bp', hM', bl'⟩ := back3 (g := g) H.out BP5.out BW5.out PW.out
        rw [← hW']
        refine bodyPost_ret (results_m3 rfl _ _ _ rfl rfl rfl bp') rfl ?_
        exact ⟨.agg #[.int .i64 M.w, .int .i64 M.n, .slice (some ⟨b, o, none⟩) M.all.length c], by rw [HA.out]; rfl, by rw [HA.out]; exact hM', bl'⟩
      · have HA : Hid (commitM M cs = (keptM (addM M es), M.n, 0)) := Lib.hid (by unfold commitM; rw [hvd, ← HLV.out, ← HR.out]; simp [hnx])
        have hnq : (M.n == 1048576) = false := beq_eq_false_iff_ne.2 hnx
        have wn : IntKind.i64.wrap (M.n + 1) = M.n + 1 := IntWalk.i64_in _ (by omega)
        clear hvd ca
        go_enter Try.func30, Try.ntmps30
        go_upto_region 1 with (fail)
        rw [← hw, ← hp, ← hg]
        clear hw hp hg
        go_upto_region 4 with (go_at_call 17; refine VD.out.mono ?_; rintro e w3 ⟨rfl, hb⟩; have BG3 := Lib.hid (BG.out.below hb); have BP3 := Lib.hid (BP.out.below hb); have BW3 := Lib.hid (BW.out.call hb); clear hb q0 q1 q2; have q0 := BG3.out.cell 0; have q1 := BG3.out.cell 1; have q2 := BG3.out.cell 2; have p0 := BP3.out.cell 0; have p1 := BP3.out.cell 1; have p2 := BP3.out.cell 2; simp only [List.getElem?_toArray, List.getElem?_cons_succ, List.getElem?_cons_zero] at q0 q1 q2 p0 p1 p2; have f0 := BP3.out.frozen 0; have f1 := BP3.out.frozen 1; have f2 := BP3.out.frozen 2; have x0 := (BW3.out.1.cell (p := ⟨b, _, none⟩) HBL.out).trans D0.out; have x1 := (BW3.out.1.cell (p := ⟨b, _, none⟩) HBL.out).trans D1.out; have x2 := (BW3.out.1.cell (p := ⟨b, _, none⟩) HBL.out).trans D2.out; have x3 := (BW3.out.1.cell (p := ⟨b, _, none⟩) HBL.out).trans D3.out)
        have BG4 := Lib.hid (BG3.out.alloc (.cells #[.int .i64 L.b, .slice Ae L.e.length ce, .slice Ac L.c.length cc, .int .i64 L.p] 62))
        have BP4 := Lib.hid (BP3.out.alloc (.cells #[.int .i64 L.b, .slice Ae L.e.length ce, .slice Ac L.c.length cc, .int .i64 L.p] 62))
        have BW4 := Lib.hid (BW3.out.alloc (.cells #[.int .i64 L.b, .slice Ae L.e.length ce, .slice Ac L.c.length cc, .int .i64 L.p] 62))
        have BV4 := Lib.hid (Blk.new w3 62 #[.int .i64 L.b, .slice Ae L.e.length ce, .slice Ac L.c.length cc, .int .i64 L.p])
        have P3 := Lib.hid BP3.out.lt
        clear q0 q1 q2 p0 p1 p2 f0 f1 f2 x0 x1 x2 x3
        generalize w3.alloc (.cells #[.int .i64 L.b, .slice Ae L.e.length ce, .slice Ac L.c.length cc, .int .i64 L.p] 62) = w4 at *
        generalize w3.heap.size = s7 at *
        have y1 := BV4.out.cell 1
        simp only [List.getElem?_toArray, List.getElem?_cons_succ, List.getElem?_cons_zero] at y1
        go_upto_region 9 with (go_at_call 29; refine (AP.out _ BW4.out.1).mono ?_; rintro e w5 ⟨v5, rfl, hes, hb⟩; have E5 := Lib.hid hes; have BG5 := Lib.hid (BG4.out.below hb); have BP5 := Lib.hid (BP4.out.below hb); have BW5 := Lib.hid (BW4.out.call hb); have BV5 := Lib.hid (BV4.out.below hb); have S45 := Lib.hid hb.size; clear hb hes y1; have q0 := BG5.out.cell 0; have q1 := BG5.out.cell 1; have q2 := BG5.out.cell 2; have p0 := BP5.out.cell 0; have p1 := BP5.out.cell 1; have p2 := BP5.out.cell 2; simp only [List.getElem?_toArray, List.getElem?_cons_succ, List.getElem?_cons_zero] at q0 q1 q2 p0 p1 p2; have f0 := BP5.out.frozen 0; have f1 := BP5.out.frozen 1; have f2 := BP5.out.frozen 2)
        have y0 := BV5.out.cell 1
        simp only [List.getElem?_toArray, List.getElem?_cons_succ, List.getElem?_cons_zero] at y0
        have HE5 := Lib.hid (HE.out.below BW5.out.1)
        have ST : Hid (∀ W, Below w5.heap.size w5 W → W.cell? ⟨g, 1, none⟩ = some (.int .i64 M.n) ∧ W.cell? ⟨s7, 1, none⟩ = some (.slice Ae L.e.length ce)) := Lib.hid (fun W hW => ⟨(hW.cell (p := ⟨g, 1, none⟩) BG5.out.lt).trans q1, (hW.cell (p := ⟨s7, 1, none⟩) BV5.out.lt).trans y0⟩)
        obtain ⟨A5, c5, hv5⟩ := E5.out.toEs.shape
        subst hv5
        clear q0 q1 q2 p0 p1 p2 f0 f1 f2 y0
        go_cut [10] from 39 to 62 (fun v10 wx => ∃ s Ad ld cd, v10 = .pointer (some ⟨s, 0, none⟩) ∧ Hid (Blk wx s 62 #[.int .i64 M.n, .slice A5 es.length c5, .slice Ad ld cd, .int .i64 0]) ∧ Hid (CsN (fun b => w5.heap.size ≤ b) wx (.slice Ad ld cd) (diffM L.e es)) ∧ Hid (Bl w5.heap.size w5 wx) ∧ Hid (w5.heap.size ≤ s))
        case first =>
          have E0 : Hid (Below w5.heap.size w5 w5.drew) := Lib.hid ((Bl.start w5).drewN 1).1
          have E1 : Hid (Below w5.heap.size w5 (w5.alloc (.cells #[.int .i64 0, .slice none 0 0, .slice none 0 0, .int .i64 0] 62)).drew) := Lib.hid (((Bl.start w5).alloc _).drewN 1).1
          have ZB : Hid (Blk (w5.alloc (.cells #[.int .i64 0, .slice none 0 0, .slice none 0 0, .int .i64 0] 62)).drew w5.heap.size 62 #[.int .i64 0, .slice none 0 0, .slice none 0 0, .int .i64 0]) := Lib.hid (Blk.new w5 _ _)
          have LES : Hid (es.length ≤ 1000) := Lib.hid (by have h1 := (applyM_good (l := L.e) (cs := cs) (by rw [← HR.out])).2.2; rw [← HR.out] at h1; simp only at h1; rw [h1.1]; have := h1.2.few; omega)
          have DF := Lib.hid (fun W (hW : Below w5.heap.size w5 W) => diff_any (HE5.out.toEs.below hW) (E5.out.toEs.below hW) LE.out.1 LES.out)
          go_region_held3 (fun W => W.cell? ⟨g, 1, none⟩ = some (.int .i64 M.n) ∧ W.cell? ⟨s7, 1, none⟩ = some (.slice Ae L.e.length ce))
            (first | (with_reducible exact ST.out _ E0.out) | (with_reducible exact ST.out _ E1.out) | (refine ST.out _ (show Bl w5.heap.size w5 _ from ?_).1; repeat' (first | (with_reducible exact BL6.out) | (with_reducible refine Bl.alloc ?_ _) | (with_reducible refine Bl.setCell ?_ ?_ _) | (with_reducible exact SLE.out) | (exact Nat.le_refl _))))
            (first
              | (go_at_call 43; (with_reducible refine (DF.out _ E0.out).mono ?_); rintro e w6 ⟨v6, rfl, hcs, hb⟩; have C6 := Lib.hid hcs; have BL6 := Lib.hid ((Bl.start w5).drew.call hb); have SLE : Hid (w5.heap.size ≤ w6.heap.size) := Lib.hid BL6.out.2; obtain ⟨Ad, cd, hv6⟩ := hcs.toCs.shape; subst hv6; clear hcs hb)
              | (go_at_call 43; (with_reducible refine (DF.out _ E1.out).mono ?_); rintro e w6 ⟨v6, rfl, hcs, hb⟩; have C6 := Lib.hid hcs; have BL6 := Lib.hid (((Bl.start w5).alloc (.cells #[.int .i64 0, .slice none 0 0, .slice none 0 0, .int .i64 0] 62)).drew.call hb); have ZB6 := Lib.hid (ZB.out.below hb); have k0 := ZB6.out.cell 0; have k1 := ZB6.out.cell 1; have k2 := ZB6.out.cell 2; have k3 := ZB6.out.cell 3; simp only [List.getElem?_toArray, List.getElem?_cons_succ, List.getElem?_cons_zero] at k0 k1 k2 k3; have f0 := ZB6.out.frozen 0; have f1 := ZB6.out.frozen 1; have f2 := ZB6.out.frozen 2; have f3 := ZB6.out.frozen 3; obtain ⟨Ad, cd, hv6⟩ := hcs.toCs.shape; subst hv6; clear hcs hb))
          · go_wp2_with fail
            go_meet
            exact ⟨w6.heap.size, Ad, (diffM L.e es).length, cd, rfl, Lib.hid (Blk.new w6 _ _), Lib.hid (C6.out.below ((Below.refl _ _).alloc (Nat.le_refl _) _)), Lib.hid (BL6.out.alloc _), SLE⟩
          · go_wp2_with fail
            go_meet
            obtain ⟨W4, hW4, bl4, ff4, bk4⟩ := put4 ZB6.out BL6.out (Nat.le_refl _) (.int .i64 M.n) (.slice A5 es.length c5) (.slice Ad (diffM L.e es).length cd) (.int .i64 0)
            rw [← hW4]
            exact ⟨w5.heap.size, Ad, (diffM L.e es).length, cd, rfl, Lib.hid bk4, Lib.hid ((C6.out.far ff4 (fun b hb _ e => by have e1 : b = w5.heap.size := e; have h9 : (w5.alloc (.cells #[.int .i64 0, .slice none 0 0, .slice none 0 0, .int .i64 0] 62)).heap.size ≤ b := hb; rw [World.size_alloc] at h9; omega)).mono (fun b hb _ => by have h9 : (w5.alloc (.cells #[.int .i64 0, .slice none 0 0, .slice none 0 0, .int .i64 0] 62)).heap.size ≤ b := hb; rw [World.size_alloc] at h9; omega)), Lib.hid bl4, Lib.hid (Nat.le_refl _)⟩
        case rest =>
          obtain ⟨s, Ad, ld, cd, e10, BS, CD, BX, SGE⟩ := hcut
          subst e10
          have BG6 := Lib.hid (BG5.out.below BX.out.1)
          have BP6 := Lib.hid (BP5.out.below BX.out.1)
          have BW6 := Lib.hid (BW5.out.call BX.out.1)
          have S56 : Hid (w5.heap.size ≤ wc.heap.size) := Lib.hid BX.out.2
          have P4 := Lib.hid BP4.out.lt
          have CO := Lib.hid (copied_any (H.out.below BW6.out.1) (Nat.le_trans hl (by decide)) r5 hle)
          have q0 := BG6.out.cell 0
          have q1 := BG6.out.cell 1
          have q2 := BG6.out.cell 2
          simp only [List.getElem?_toArray, List.getElem?_cons_succ, List.getElem?_cons_zero] at q0 q1 q2
          go_upto_region 11 with (go_at_call 49; refine CO.out.mono ?_; rintro e w7 ⟨r, rfl, hrw, ⟨rs, hrv, hrow⟩, hb⟩; have BP7 := Lib.hid (BP6.out.below hb); have BS7 := Lib.hid (BS.out.below hb); have BW7 := Lib.hid (BW6.out.call hb); have RW := Lib.hid hrw; have RV7 := Lib.hid hrv; have ROW7 := Lib.hid hrow; have S67 := Lib.hid hb.size; have E7 := Lib.hid (((E5.out.below BX.out.1).mono (N' := fun b => w4.heap.size ≤ b ∧ b < wc.heap.size) (fun b h1 h2 => ⟨h1, h2⟩)).below hb); have CD7 := Lib.hid ((CD.out.mono (N' := fun b => w4.heap.size ≤ b ∧ b < wc.heap.size) (fun b h1 h2 => ⟨Nat.le_trans S45.out h1, h2⟩)).below hb); clear hb hrw hrv hrow q0 q1 q2)
          have R7 := Lib.hid ROW7.out.lt
          have P7 := Lib.hid BP7.out.lt
          have S7 := Lib.hid BS7.out.lt
          have E7b := Lib.hid (E7.out.mono (N' := fun b => w4.heap.size ≤ b ∧ ¬ b = r ∧ b < w7.heap.size) (fun b h1 h2 => ⟨h1.1, by have := RW.out; omega, h2⟩))
          have C7b := Lib.hid (CD7.out.mono (N' := fun b => w4.heap.size ≤ b ∧ ¬ b = r ∧ b < w7.heap.size) (fun b h1 h2 => ⟨h1.1, by have := RW.out; omega, h2⟩))
          have R7b := Lib.hid (RV7.out.mono (N' := fun b => w4.heap.size ≤ b ∧ ¬ b = r ∧ b < w7.heap.size) (fun b h1 h2 => ⟨by have := h1.1; have := S45.out; have := S56.out; omega, h1.2, h2⟩))
          have bl8 : Below w7.heap.size w7 (w7.alloc (.cells #[.int .i64 M.w, .int .i64 M.n, .slice (some ⟨r, 0, none⟩) M.all.length M.all.length] 24)) := (Below.refl _ _).alloc (Nat.le_refl _) _
          have BT8 := Lib.hid (Blk.new w7 24 #[.int .i64 M.w, .int .i64 M.n, .slice (some ⟨r, 0, none⟩) M.all.length M.all.length])
          have BP8 := Lib.hid (BP7.out.below bl8)
          have BS8 := Lib.hid (BS7.out.below bl8)
          have BW8 := Lib.hid (BW7.out.call bl8)
          have ROW8 := Lib.hid (ROW7.out.below bl8)
          have RV8 := Lib.hid (R7b.out.below bl8)
          have E8 := Lib.hid (E7b.out.below bl8)
          have C8 := Lib.hid (C7b.out.below bl8)
          clear bl8 E7 CD7 RV7 E7b C7b R7b
          generalize w7.alloc (.cells #[.int .i64 M.w, .int .i64 M.n, .slice (some ⟨r, 0, none⟩) M.all.length M.all.length] 24) = w8 at *
          generalize ht : w7.heap.size = t at *
          have WC8 : Hid (wc.heap.size ≤ w8.heap.size) := Lib.hid (by have := BT8.out.lt; have := S67.out; omega)
          have OWN : Hid (w8.ownsRow wc.heap.size 62 4 (.slice (some ⟨r, 0, none⟩) M.all.length M.all.length) M.all.length (flatR rs)) := Lib.hid ⟨by rw [flatR_length, RV8.out.len], .inr ⟨r, M.all.length, (flatR rs).toArray, rfl, RW.out, ROW8.out, Nat.le_refl _, by unfold maxLen; omega, by simp [flatR_length, RV8.out.len], by rw [List.take_of_length_le (by simp [flatR_length, RV8.out.len])]⟩⟩
          have BA := Lib.hid (BW8.out.alloc (.cells #[.int .i64 M.n, .slice A5 es.length c5, .slice Ad ld cd, .int .i64 0] 62))
          have OWA := Lib.hid (World.ownsRow.alloc OWN.out (.cells #[.int .i64 M.n, .slice A5 es.length c5, .slice Ad ld cd, .int .i64 0] 62))
          have NC := Lib.hid (new_cells w8 62 [.int .i64 M.n, .slice A5 es.length c5, .slice Ad ld cd, .int .i64 0])
          have N1 : Hid (M.all.length + 1 ≤ 1000000) := Lib.hid (by omega)
          have OM : Hid (∀ y ∈ ([.int .i64 M.n, .slice A5 es.length c5, .slice Ad ld cd, .int .i64 0] : List Value), y.oneCell' = true) := Lib.hid (by intro y hy; simp only [List.mem_cons, List.not_mem_nil, or_false] at hy; rcases hy with rfl | rfl | rfl | rfl <;> rfl)
          have NB : Hid (wc.heap.size ≤ (w8.alloc (.cells #[.int .i64 M.n, .slice A5 es.length c5, .slice Ad ld cd, .int .i64 0] 62)).heap.size) := Lib.hid (by rw [World.size_alloc]; have := WC8.out; omega)
          have t2 := BT8.out.cell 2
          have s0 := BS8.out.cell 0
          have s1 := BS8.out.cell 1
          have s2 := BS8.out.cell 2
          have s3 := BS8.out.cell 3
          simp only [List.getElem?_toArray, List.getElem?_cons_succ, List.getElem?_cons_zero] at t2 s0 s1 s2 s3
          have TA := Lib.hid (BT8.out.alloc (.cells #[.int .i64 M.n, .slice A5 es.length c5, .slice Ad ld cd, .int .i64 0] 62))
          have TR : Hid (¬ r = t) := Lib.hid (by have := R7.out; omega)
          go_upto_region 12 with (at_builtin; refine wpList_append_own (k := 4) (T := 62) (S := 22) elemVers infoVers rfl (by decide) (by decide) rfl _ _ rfl rfl wc.heap.size _ _ (flatR rs) w8.heap.size 0 1 1 [.int .i64 M.n, .slice A5 es.length c5, .slice Ad ld cd, .int .i64 0] rfl rfl OWA.out rfl NC.out OM.out N1.out NB.out ?_; intro v9 w9 own9 gr9 hob9; have OW9 := Lib.hid own9; have HOB := Lib.hid hob9; have GR := Lib.hid gr9; obtain ⟨A9, c9, hv9⟩ := own_shape own9; subst hv9; have T9 := Lib.hid (TA.out.grown gr9 (fun e => TR.out (Option.some.inj e))); have t9 := T9.out.cell 2; have ft9 := T9.out.frozen 2; simp only [List.getElem?_toArray, List.getElem?_cons_succ, List.getElem?_cons_zero] at t9; have t91 := T9.out.cell 1; have ft91 := T9.out.frozen 1; simp only [List.getElem?_toArray, List.getElem?_cons_succ, List.getElem?_cons_zero] at t91; have F9 := Lib.hid ((Far.refl (fun i => i = r) (w8.alloc (.cells #[.int .i64 M.n, .slice A5 es.length c5, .slice Ad ld cd, .int .i64 0] 62))).grown gr9 (fun i _ e => (Option.some.inj e).symm)); clear own9 gr9 hob9)
          go_upto_region 13 with (fail)
          have F10 := Lib.hid (((Far.refl (fun i => i = t) w9).setCell (p := ⟨t, 2, none⟩) (fun _ => rfl) (.slice A9 (M.all.length + 1) c9)).setCell (p := ⟨t, 1, none⟩) (fun _ => rfl) (.int .i64 (M.n + 1)))
          have T10 := Lib.hid ((T9.out.set 2 (.slice A9 (M.all.length + 1) c9)).set 1 (.int .i64 (M.n + 1)))
          simp only [List.setIfInBounds_toArray, List.set_cons_succ, List.set_cons_zero] at T10
          have WR : Hid (w.heap.size ≤ r) := Lib.hid (by have := BW6.out.2; have := RW.out; omega)
          have WT : Hid (w.heap.size ≤ t) := Lib.hid (by have := WR.out; have := R7.out; omega)
          have BW9 := Lib.hid (Far.bl BA.out F9.out (fun i e => by rw [e]; exact WR.out))
          have BW10 := Lib.hid (Far.bl BW9.out F10.out (fun i e => by rw [e]; exact WT.out))
          have PT : Hid (¬ p = t) := Lib.hid (by have := P7.out; omega)
          have PR : Hid (¬ p = r) := Lib.hid (by have := P4.out; have := S45.out; have := S56.out; have := RW.out; omega)
          have BP10 := Lib.hid (((BP8.out.alloc (.cells #[.int .i64 M.n, .slice A5 es.length c5, .slice Ad ld cd, .int .i64 0] 62)).far F9.out PR.out).far F10.out PT.out)
          have ST2 : Hid (¬ s = t) := Lib.hid (by have := S7.out; omega)
          have SR2 : Hid (¬ s = r) := Lib.hid (by have h1 := BS.out.lt; have := RW.out; omega)
          have BS10 := Lib.hid (((BS8.out.alloc (.cells #[.int .i64 M.n, .slice A5 es.length c5, .slice Ad ld cd, .int .i64 0] 62)).far F9.out SR2.out).far F10.out ST2.out)
          have ba : Below w8.heap.size w8 (w8.alloc (.cells #[.int .i64 M.n, .slice A5 es.length c5, .slice Ad ld cd, .int .i64 0] 62)) := (Below.refl _ _).alloc (Nat.le_refl _) _
          have RV10 := Lib.hid (((RV8.out.below ba).far F9.out (fun b hb _ e => hb.2.1 e)).far F10.out (fun b hb _ e => by have e1 : b = t := e; have := hb.2.2; omega))
          have E10 := Lib.hid (((E8.out.below ba).far F9.out (fun b hb _ e => hb.2.1 e)).far F10.out (fun b hb _ e => by have e1 : b = t := e; have := hb.2.2; omega))
          have C10 := Lib.hid (((C8.out.below ba).far F9.out (fun b hb _ e => hb.2.1 e)).far F10.out (fun b hb _ e => by have e1 : b = t := e; have := hb.2.2; omega))
          have OWB : Hid (∀ i, (Value.slice A9 (M.all.length + 1) c9).ownBlock = some i → ¬ i = t) := Lib.hid (fun i hi => by
            rcases HOB.out with h1 | h1
            · rw [h1] at hi; cases hi; exact TR.out
            · rw [h1] at hi; cases hi; have := BT8.out.lt; rw [World.size_alloc]; omega)
          have OW10 := Lib.hid (own_far OW9.out F10.out (fun i hi e => OWB.out i hi e))
          have LD : Hid (ld = (diffM L.e es).length) := Lib.hid (by obtain ⟨_, _, h1, _⟩ := CD.out; cases h1; rfl)
          have SHN : Hid (Sh (fun b => w4.heap.size ≤ b) ((w9.setCell ⟨t, 2, none⟩ (.slice A9 (M.all.length + 1) c9)).setCell ⟨t, 1, none⟩ (.int .i64 (M.n + 1))) ⟨M.n, .slice A5 es.length c5, .slice Ad ld cd, 0⟩ ⟨M.n, es, diffM (lastV M).e es, 0⟩) := Lib.hid ⟨rfl, rfl, E10.out.mono (fun b hb _ => hb.1), by rw [← HLV.out]; exact C10.out.mono (fun b hb _ => hb.1)⟩
          have VL10 : Hid (Vl (fun b => w4.heap.size ≤ b) ((w9.setCell ⟨t, 2, none⟩ (.slice A9 (M.all.length + 1) c9)).setCell ⟨t, 1, none⟩ (.int .i64 (M.n + 1))) (.slice A9 (M.all.length + 1) c9) (addM M es).all) := Lib.hid (by
            have h1 := Vl.of_own (rs := rs ++ [⟨M.n, .slice A5 es.length c5, .slice Ad ld cd, 0⟩]) (L := (addM M es).all) (N := fun b => w4.heap.size ≤ b) (base := wc.heap.size) (T := 62) (v := .slice A9 (M.all.length + 1) c9) (w := (w9.setCell ⟨t, 2, none⟩ (.slice A9 (M.all.length + 1) c9)).setCell ⟨t, 1, none⟩ (.int .i64 (M.n + 1))) (by
              have h2 : (addM M es).all.length = M.all.length + 1 := by unfold addM; simp
              rw [h2, flatR_append]
              exact OW10.out) ((RV10.out.mono (fun b hb _ => hb.1)).append (Rv.single SHN.out)) (fun b hb => by have := S45.out; have := S56.out; omega)
            exact h1)
          clear ba t9 ft9 t91 ft91 t2 s0 s1 s2 s3
          generalize (w9.setCell ⟨t, 2, none⟩ (.slice A9 (M.all.length + 1) c9)).setCell ⟨t, 1, none⟩ (.int .i64 (M.n + 1)) = w10 at *
          have KM := Lib.hid (kept_any (M := addM M es) (w := w10.drew) (v := .agg #[.int .i64 M.w, .int .i64 (M.n + 1), .slice A9 (M.all.length + 1) c9]) ⟨_, rfl, VL10.out.below (Below.refl w10.heap.size w10).drew⟩ r1 r2 (by unfold addM; simp only; omega) (by unfold addM; simp only; omega) (by unfold addM; simp only [List.length_append, List.length_singleton]; omega))
          obtain ⟨K, hK⟩ : ∃ K, K = keptM (addM M es) := ⟨_, rfl⟩
          rw [← hK] at KM HA
          clear hK
          have u0 := T10.out.cell 0
          have u1 := T10.out.cell 1
          have u2 := T10.out.cell 2
          have s0 := BS10.out.cell 0
          simp only [List.getElem?_toArray, List.getElem?_cons_succ, List.getElem?_cons_zero] at u0 u1 u2 s0
          have P10 := Lib.hid BP10.out.lt
          have BP11 := Lib.hid (BP10.out.drewN 1)
          have TP : Hid (¬ t = p) := Lib.hid (fun e => PT.out e.symm)
          have SP2 : Hid (¬ s = p) := Lib.hid (fun e => by have h1 := SGE.out; have := P4.out; have := S45.out; omega)
          have ST3 : Hid (∀ W, Far (fun i => i = p) w10 W → W.cell? ⟨s, 0, none⟩ = some (.int .i64 M.n) ∧ W.cell? ⟨t, 0, none⟩ = some (.int .i64 M.w) ∧ W.cell? ⟨t, 1, none⟩ = some (.int .i64 (M.n + 1)) ∧ W.cell? ⟨t, 2, none⟩ = some (.slice A9 (M.all.length + 1) c9)) := Lib.hid (fun W hW => ⟨(far_cell (p := ⟨s, 0, none⟩) hW BS10.out.lt SP2.out).trans s0, (far_cell (p := ⟨t, 0, none⟩) hW T10.out.lt TP.out).trans u0, (far_cell (p := ⟨t, 1, none⟩) hW T10.out.lt TP.out).trans u1, (far_cell (p := ⟨t, 2, none⟩) hW T10.out.lt TP.out).trans u2⟩)
          have G0 : Hid (Far (fun i => i = p) w10 w10.drew) := Lib.hid (Far.refl _ w10).drew
          have ps : s ≠ p := fun e => by have h1 := SGE.out; have := P4.out; have := S45.out; omega
          go_region_held3 (fun W => W.cell? ⟨s, 0, none⟩ = some (.int .i64 M.n) ∧ W.cell? ⟨t, 0, none⟩ = some (.int .i64 M.w) ∧ W.cell? ⟨t, 1, none⟩ = some (.int .i64 (M.n + 1)) ∧ W.cell? ⟨t, 2, none⟩ = some (.slice A9 (M.all.length + 1) c9))
            (first | (with_reducible exact ST3.out _ G0.out) | (with_reducible exact ST3.out _ G1.out) | (with_reducible exact ST3.out _ G2.out))
            (first
              | (go_at_call 50; (with_reducible refine KM.out.mono ?_); rintro e w11 ⟨v11, rfl, hmd, hb⟩; obtain ⟨u11, hv11, hvl⟩ := hmd; obtain ⟨A11, c11, hs11⟩ := hvl.shape; subst hs11; subst hv11; have VL11 := Lib.hid hvl; have G1 := Lib.hid (farEv_trans p _ _ _ G0.out (farEv_below p hb)); have G2 := Lib.hid (((G1.out.setCell (p := ⟨p, 0, none⟩) (fun _ => rfl) (.int .i64 K.w)).setCell (p := ⟨p, 1, none⟩) (fun _ => rfl) (.int .i64 K.n)).setCell (p := ⟨p, 2, none⟩) (fun _ => rfl) (.slice A11 K.all.length c11)); have S11 := Lib.hid hb.size; have BP12 := Lib.hid (BP11.out.below hb); have BW12 := Lib.hid (BW10.out.drew.call hb); have p0 := BP12.out.cell 0; have p1 := BP12.out.cell 1; have p2 := BP12.out.cell 2; simp only [List.getElem?_toArray, List.getElem?_cons_succ, List.getElem?_cons_zero] at p0 p1 p2; have f0 := BP12.out.frozen 0; have f1 := BP12.out.frozen 1; have f2 := BP12.out.frozen 2; clear hvl hb))
          go_wp2_with fail
          obtain ⟨W', hW', bw', ff', bp'⟩ := put3 BP12.out BW12.out PW.out (.int .i64 K.w) (.int .i64 K.n) (.slice A11 K.all.length c11)
          rw [← hW']
          refine bodyPost_ret (results_m3 rfl _ _ _ rfl rfl rfl bp') rfl ?_
          have vl := (VL11.out.far ff' (fun b hb hlt e => by have e1 : b = p := e; have := P4.out; have := P10.out; have h9 : w4.heap.size ≤ b ∨ w10.heap.size ≤ b := hb; omega)).mono (N' := fun b => N b ∨ w.heap.size ≤ b) (fun b hb _ => .inr (by have := BW4.out.2; have := BW10.out.2; have h9 : w4.heap.size ≤ b ∨ w10.heap.size ≤ b := hb; omega))
          refine ⟨.agg #[.int .i64 K.w, .int .i64 K.n, .slice A11 K.all.length c11], by rw [HA.out]; rfl, by rw [HA.out]; exact ⟨_, rfl, vl⟩, bw'.1⟩
    · have HA : Hid (commitM M cs = (M, 0, er)) := Lib.hid (by unfold commitM; rw [hvd, ← HLV.out, ← HR.out]; simp [her])
      have he2 : er = 1 ∨ er = 12 := by rcases ca with h | h | h <;> first | exact absurd h her | exact .inl h | exact .inr h
      clear hvd ca her
      rcases he2 with rfl | rfl
      all_goals
        go_enter Try.func30, Try.ntmps30
        go_upto_region 1 with (fail)
        rw [← hw, ← hp, ← hg]
        clear hw hp hg
        go_upto_region 4 with (go_at_call 17; refine VD.out.mono ?_; rintro e w3 ⟨rfl, hb⟩; have BG3 := Lib.hid (BG.out.below hb); have BP3 := Lib.hid (BP.out.below hb); have BW3 := Lib.hid (BW.out.call hb); clear hb q0 q1 q2; have q0 := BG3.out.cell 0; have q1 := BG3.out.cell 1; have q2 := BG3.out.cell 2; have p0 := BP3.out.cell 0; have p1 := BP3.out.cell 1; have p2 := BP3.out.cell 2; simp only [List.getElem?_toArray, List.getElem?_cons_succ, List.getElem?_cons_zero] at q0 q1 q2 p0 p1 p2; have f0 := BP3.out.frozen 0; have f1 := BP3.out.frozen 1; have f2 := BP3.out.frozen 2; have x0 := (BW3.out.1.cell (p := ⟨b, _, none⟩) HBL.out).trans D0.out; have x1 := (BW3.out.1.cell (p := ⟨b, _, none⟩) HBL.out).trans D1.out; have x2 := (BW3.out.1.cell (p := ⟨b, _, none⟩) HBL.out).trans D2.out; have x3 := (BW3.out.1.cell (p := ⟨b, _, none⟩) HBL.out).trans D3.out)
        have BG4 := Lib.hid (BG3.out.alloc (.cells #[.int .i64 L.b, .slice Ae L.e.length ce, .slice Ac L.c.length cc, .int .i64 L.p] 62))
        have BP4 := Lib.hid (BP3.out.alloc (.cells #[.int .i64 L.b, .slice Ae L.e.length ce, .slice Ac L.c.length cc, .int .i64 L.p] 62))
        have BW4 := Lib.hid (BW3.out.alloc (.cells #[.int .i64 L.b, .slice Ae L.e.length ce, .slice Ac L.c.length cc, .int .i64 L.p] 62))
        have BV4 := Lib.hid (Blk.new w3 62 #[.int .i64 L.b, .slice Ae L.e.length ce, .slice Ac L.c.length cc, .int .i64 L.p])
        have P3 := Lib.hid BP3.out.lt
        clear q0 q1 q2 p0 p1 p2 f0 f1 f2 x0 x1 x2 x3
        generalize w3.alloc (.cells #[.int .i64 L.b, .slice Ae L.e.length ce, .slice Ac L.c.length cc, .int .i64 L.p] 62) = w4 at *
        generalize w3.heap.size = s7 at *
        have y1 := BV4.out.cell 1
        simp only [List.getElem?_toArray, List.getElem?_cons_succ, List.getElem?_cons_zero] at y1
        go_wp2_with (go_at_call 29; refine (AP.out _ BW4.out.1).mono ?_; rintro e w5 ⟨v5, rfl, hes, hb⟩; have E5 := Lib.hid hes; have BG5 := Lib.hid (BG4.out.below hb); have BP5 := Lib.hid (BP4.out.below hb); have BW5 := Lib.hid (BW4.out.call hb); have BV5 := Lib.hid (BV4.out.below hb); have S45 := Lib.hid hb.size; clear hb hes y1; have q0 := BG5.out.cell 0; have q1 := BG5.out.cell 1; have q2 := BG5.out.cell 2; have p0 := BP5.out.cell 0; have p1 := BP5.out.cell 1; have p2 := BP5.out.cell 2; simp only [List.getElem?_toArray, List.getElem?_cons_succ, List.getElem?_cons_zero] at q0 q1 q2 p0 p1 p2; have f0 := BP5.out.frozen 0; have f1 := BP5.out.frozen 1; have f2 := BP5.out.frozen 2)
        obtain ⟨W', hW', bp', hM', bl'⟩ := back3 (g := g) H.out BP5.out BW5.out PW.out
        rw [← hW']
        refine bodyPost_ret (results_m3 rfl _ _ _ rfl rfl rfl bp') rfl ?_
        exact ⟨.agg #[.int .i64 M.w, .int .i64 M.n, .slice (some ⟨b, o, none⟩) M.all.length c], by rw [HA.out]; rfl, by rw [HA.out]; exact hM', bl'⟩
end Go.Proofs.Ytdahhnefcageeaa

/-
  The document's answer, package guillocheref14: Commit (written by makers/mdlrcommit.py).
-/
import Derived.Test.YtdahhnefcageeaaGaMdR3
import Derived.Test.YtdahhnefcageeaaMdlCommit
import Derived.Deep.CutRange
import Derived.Deep.RegionHeld3
import Derived.Deep.RegionLaw
namespace Go.Proofs.Mdl
open Go.Proofs.Ytdahhnefcageeaa
theorem pruned_add {M : Mod} (h : validM M = true) (es : List Ent) : prunedM (addM M es) = keptM (addM M es) :=
  prunedM_kept (M := addM M es) (valid_right h).1 (by unfold addM; simp only; rw [lastB_app]; simp only; omega)
end Go.Proofs.Mdl
namespace Go.Proofs.Ytdahhnefcageeaa
open Go.RowKit Go.Proofs.Mdl
set_option linter.unusedVariables false
set_option linter.unusedSimpArgs false
theorem own_ne {k g n c : Nat} (h : ¬ k = g) : (Value.slice (some ⟨k, 0, none⟩) n c).ownBlock ≠ some g := fun e => h (Option.some.inj e)
theorem row_mono {w : World} {b b' n : Nat} {T : TypeId} {k : Nat} {v : Value} {xs : List Value} (h : w.ownsRow b T k v n xs) (hb : b' ≤ b) : w.ownsRow b' T k v n xs := Joins.ownsRow_le h hb
set_option maxRecDepth 100000 in
set_option maxHeartbeats 4000000 in
theorem rcommit_any {N : Nat → Prop} {w : World} {v vc : Value} {M : Mod} {cs : List Chg} (h : Md N w v M) (hcs0 : Cs w vc cs) (hl : M.all.length ≤ 900) (hle : ∀ V ∈ M.all, V.e.length ≤ 1000 ∧ V.c.length ≤ 1000) (hcs : cs.length ≤ 900) :
    Calls Try.prog 33 #[v, vc] w fun e w' => ∃ v', e = .returned (.tuple #[v', .int .i64 (commitM M cs).2.1, .int .i64 (commitM M cs).2.2]) ∧ Md (fun b => N b ∨ w.heap.size ≤ b) w' v' (commitM M cs).1 ∧ Below w.heap.size w w' := by
  suffices hs : Calls Try.prog 33 #[v, vc] w fun e w' => ∃ v', e = .returned (.tuple #[v', .int .i64 (commitM M cs).2.1, .int .i64 (commitM M cs).2.2]) ∧ Md (fun b => (N b ∧ b < w.heap.size) ∨ w.heap.size ≤ b) w' v' (commitM M cs).1 ∧ Below w.heap.size w w' from
    hs.mono (fun e w' ⟨v', h1, h2, h3⟩ => ⟨v', h1, h2.mono (fun b hb _ => hb.imp (fun x => x.1) id), h3⟩)
  have HC := Lib.hid hcs0
  obtain ⟨Ac0, cc0, rfl⟩ := hcs0.shape
  clear hcs0
  have hl2 : M.all.length ≤ 1000 := by omega
  have H : Hid (Md (fun b => N b ∧ b < w.heap.size) w v M) := Lib.hid (h.mono (fun b h1 h2 => ⟨h1, h2⟩))
  obtain ⟨u, rfl, hv⟩ := h
  obtain ⟨A, c, rfl⟩ := hv.shape
  obtain ⟨w2, g, p, hw, hg, hp, hb2, b1, b2⟩ := two_boxes w 37 37 #[.int .i64 M.w, .int .i64 M.n, .slice A M.all.length c] #[.int .i64 0, .int .i64 0, .slice none 0 0]
  have VD := Lib.hid (rvalid_any (H.out.below hb2) hl2 (fun V hV => (hle V hV).1))
  have BW := Lib.hid (Bl.call (Bl.start w) hb2)
  have BG := Lib.hid b1
  have BP := Lib.hid b2
  have GW : Hid (w.heap.size ≤ g) := Lib.hid (by omega)
  have PW : Hid (w.heap.size ≤ p) := Lib.hid (by omega)
  have GP : Hid (¬ g = p) := Lib.hid (by omega)
  have q0 := b1.cell 0
  have q1 := b1.cell 1
  have q2 := b1.cell 2
  simp only [List.getElem?_toArray, List.getElem?_cons_succ, List.getElem?_cons_zero] at q0 q1 q2
  clear b1 b2
  cases hvd : validM M with
  | false =>
    have HA : Hid (commitM M cs = (M, 0, 1)) := Lib.hid (by unfold commitM; rw [hvd]; rfl)
    rw [hvd] at VD
    clear hvd hv
    go_enter Try.func33, Try.ntmps33
    go_upto_region 1 with (fail)
    rw [← hw, ← hp, ← hg]
    clear hw hp hg
    go_wp2_with (go_at_call 16; refine VD.out.mono ?_; rintro e w3 ⟨rfl, hb⟩; have BG3 := Lib.hid (BG.out.below hb); have BP3 := Lib.hid (BP.out.below hb); have BW3 := Lib.hid (BW.out.call hb); clear hb q0 q1 q2; have q0 := BG3.out.cell 0; have q1 := BG3.out.cell 1; have q2 := BG3.out.cell 2; have p0 := BP3.out.cell 0; have p1 := BP3.out.cell 1; have p2 := BP3.out.cell 2; simp only [List.getElem?_toArray, List.getElem?_cons_succ, List.getElem?_cons_zero] at q0 q1 q2 p0 p1 p2; have f0 := BP3.out.frozen 0; have f1 := BP3.out.frozen 1; have f2 := BP3.out.frozen 2)
    obtain ⟨W', hW', bp', hM', bl'⟩ := back3T (g := g) H.out BP3.out BW3.out PW.out
    rw [← hW']
    refine bodyPost_ret (results_r3 rfl _ _ _ rfl rfl rfl bp') rfl ?_
    exact ⟨.agg #[.int .i64 M.w, .int .i64 M.n, .slice A M.all.length c], by rw [HA.out]; rfl, by rw [HA.out]; exact hM', bl'⟩
  | true =>
    rw [hvd] at VD
    have HVD := Lib.hid hvd
    obtain ⟨r1, r2, r3, r4, r5⟩ := valid_right hvd
    obtain ⟨m, hm⟩ : ∃ m, M.all.length = m + 1 := ⟨M.all.length - 1, by omega⟩
    have hV := lastV_at hm
    have LE := Lib.hid (hle _ (List.mem_of_getElem? hV))
    obtain ⟨A', c', rs, hsl, hcap, hvs, hrv⟩ := hv
    simp only [Value.slice.injEq] at hsl
    obtain ⟨rfl, -, rfl⟩ := hsl
    have VLN : Vl N w (.slice A M.all.length c) M.all := ⟨A, c, rs, rfl, hcap, hvs, hrv⟩
    have RV0 := Lib.hid (hrv.mono (N' := fun b => N b ∧ b < w.heap.size) (fun b h1 h2 => ⟨h1, h2⟩))
    have VS0 := Lib.hid hvs.vs
    have OMR := Lib.hid hrv.one
    have RLEN := Lib.hid hrv.len
    obtain ⟨bb, oo, cc, ve, vc0, he, hbl, hve, hvc, d0, d1, d2, d3⟩ := VLN.at_ hV
    simp only [Value.slice.injEq] at he
    obtain ⟨rfl, -, rfl⟩ := he
    obtain ⟨q, hq⟩ : ∃ q, q = M.all.length := ⟨_, rfl⟩
    have QM := Lib.hid hq
    obtain ⟨L, hL⟩ : ∃ L, L = lastV M := ⟨_, rfl⟩
    have HLV := Lib.hid hL
    rw [← hL] at hve LE
    obtain ⟨Ae, ce, rfl⟩ := hve.toEs.shape
    have HE := Lib.hid (hve.mono (N' := fun b => N b ∧ b < w.heap.size) (fun b h1 h2 => ⟨h1, h2⟩))
    have D1 : Hid (∀ W, Below w.heap.size w W → W.cell? ⟨bb, oo + m * 4 + 1, none⟩ = some (.slice Ae L.e.length ce)) := Lib.hid (fun W hW => (hW.cell (p := ⟨bb, _, none⟩) hbl).trans d1)
    have AP := Lib.hid (fun W (hW : Below w.heap.size w W) => rapply_any (HE.out.below hW) (HC.out.below hW) LE.out.1 hcs)
    rw [← hq] at hm hw H BG q2 hl VD ⊢
    have wm : IntKind.i64.wrap ((q : Int) - 1) = (m : Int) := by rw [show (q : Int) - 1 = (m : Int) by omega]; exact IntWalk.i64_in _ (by omega)
    have im : (m : Int) < (q : Int) := by omega
    have VAq : True := trivial
    obtain ⟨R, hR⟩ : ∃ R, R = applyM L.e cs := ⟨_, rfl⟩
    have HR := Lib.hid hR
    rw [← hR] at AP
    obtain ⟨es, er⟩ := R
    simp only at AP
    clear hV hL hR hve hvc hbl d0 d1 d2 d3 VAq hm hrv hvs hcap VLN hl2
    by_cases her : er = 0
    · subst her
      by_cases hnx : M.n = 1048576
      · have HA : Hid (commitM M cs = (M, 0, 12)) := Lib.hid (by unfold commitM; rw [hvd, ← HLV.out, ← HR.out]; simp [hnx])
        have hnq : (M.n == 1048576) = true := beq_iff_eq.2 hnx
        clear hvd hnx hq
        go_enter Try.func33, Try.ntmps33
        go_upto_region 1 with (fail)
        rw [← hw, ← hp, ← hg]
        clear hw hp hg
        go_wp2_with (first
          | (go_at_call 16; refine VD.out.mono ?_; rintro e w3 ⟨rfl, hb⟩; have BG3 := Lib.hid (BG.out.below hb); have BP3 := Lib.hid (BP.out.below hb); have BW3 := Lib.hid (BW.out.call hb); have HB23 := Lib.hid hb; clear hb q0 q1 q2; have q0 := BG3.out.cell 0; have q1 := BG3.out.cell 1; have q2 := BG3.out.cell 2; have p0 := BP3.out.cell 0; have p1 := BP3.out.cell 1; have p2 := BP3.out.cell 2; simp only [List.getElem?_toArray, List.getElem?_cons_succ, List.getElem?_cons_zero] at q0 q1 q2 p0 p1 p2; have f0 := BP3.out.frozen 0; have f1 := BP3.out.frozen 1; have f2 := BP3.out.frozen 2; have y1 := D1.out _ BW3.out.1)
          | (go_at_call 58; refine (AP.out _ BW3.out.1).mono ?_; rintro e w5 ⟨v5, rfl, hes, hb⟩; have E5 := Lib.hid hes; have BG5 := Lib.hid (BG3.out.below hb); have BP5 := Lib.hid (BP3.out.below hb); have BW5 := Lib.hid (BW3.out.call hb); have S35 := Lib.hid hb.size; clear hb hes y1 q0 q1 q2 p0 p1 p2 f0 f1 f2; have q0 := BG5.out.cell 0; have q1 := BG5.out.cell 1; have q2 := BG5.out.cell 2; have p0 := BP5.out.cell 0; have p1 := BP5.out.cell 1; have p2 := BP5.out.cell 2; simp only [List.getElem?_toArray, List.getElem?_cons_succ, List.getElem?_cons_zero] at q0 q1 q2 p0 p1 p2; have f0 := BP5.out.frozen 0; have f1 := BP5.out.frozen 1; have f2 := BP5.out.frozen 2))
        obtain ⟨W', hW', bp', hM', bl'⟩ := back3T (g := g) H.out BP5.out BW5.out PW.out
        rw [← hW']
        refine bodyPost_ret (results_r3 rfl _ _ _ rfl rfl rfl bp') rfl ?_
        exact ⟨.agg #[.int .i64 M.w, .int .i64 M.n, .slice (some ⟨bb, oo, none⟩) q c], by rw [HA.out]; rfl, by rw [HA.out]; exact hM', bl'⟩
      · have hnq : (M.n == 1048576) = false := beq_eq_false_iff_ne.2 hnx
        have wn : IntKind.i64.wrap (M.n + 1) = M.n + 1 := IntWalk.i64_in _ (by omega)
        obtain ⟨K, hK⟩ : ∃ K, K = prunedM (addM M es) := ⟨_, rfl⟩
        have HA : Hid (commitM M cs = (K, M.n, 0)) := Lib.hid (by rw [hK, pruned_add hvd]; unfold commitM; rw [hvd, ← HLV.out, ← HR.out]; simp [hnx])
        have HK := Lib.hid hK
        have n1 : M.n + 1 ≤ 1048576 := by omega
        clear hvd hnx hq hK
        go_enter Try.func33, Try.ntmps33
        go_upto_region 1 with (fail)
        rw [← hw, ← hp, ← hg]
        clear hw hp hg
        go_upto_region 9 with (first
          | (go_at_call 16; refine VD.out.mono ?_; rintro e w3 ⟨rfl, hb⟩; have BG3 := Lib.hid (BG.out.below hb); have BP3 := Lib.hid (BP.out.below hb); have BW3 := Lib.hid (BW.out.call hb); have HB23 := Lib.hid hb; clear hb q0 q1 q2; have q0 := BG3.out.cell 0; have q1 := BG3.out.cell 1; have q2 := BG3.out.cell 2; have p0 := BP3.out.cell 0; have p1 := BP3.out.cell 1; have p2 := BP3.out.cell 2; simp only [List.getElem?_toArray, List.getElem?_cons_succ, List.getElem?_cons_zero] at q0 q1 q2 p0 p1 p2; have f0 := BP3.out.frozen 0; have f1 := BP3.out.frozen 1; have f2 := BP3.out.frozen 2; have y1 := D1.out _ BW3.out.1)
          | (go_at_call 58; refine (AP.out _ BW3.out.1).mono ?_; rintro e w5 ⟨v5, rfl, hes, hb⟩; have E5 := Lib.hid hes; have BG5 := Lib.hid (BG3.out.below hb); have BP5 := Lib.hid (BP3.out.below hb); have BW5 := Lib.hid (BW3.out.call hb); have S35 := Lib.hid hb.size; clear hb hes y1 q0 q1 q2 p0 p1 p2 f0 f1 f2; have q0 := BG5.out.cell 0; have q1 := BG5.out.cell 1; have q2 := BG5.out.cell 2; have p0 := BP5.out.cell 0; have p1 := BP5.out.cell 1; have p2 := BP5.out.cell 2; simp only [List.getElem?_toArray, List.getElem?_cons_succ, List.getElem?_cons_zero] at q0 q1 q2 p0 p1 p2; have f0 := BP5.out.frozen 0; have f1 := BP5.out.frozen 1; have f2 := BP5.out.frozen 2))
        obtain ⟨A5, c5, hv5⟩ := E5.out.toEs.shape
        subst hv5
        have ST : Hid (∀ W, Below w5.heap.size w5 W → W.cell? ⟨g, 1, none⟩ = some (.int .i64 M.n)) := Lib.hid (fun W hW => (hW.cell (p := ⟨g, 1, none⟩) BG5.out.lt).trans q1)
        have HE5 := Lib.hid (HE.out.below BW5.out.1)
        have LES : Hid (es.length ≤ 1000 ∧ es.length ≤ 40) := Lib.hid (by have h1 := (applyM_good (l := L.e) (cs := cs) (by rw [← HR.out])).2.2; rw [← HR.out] at h1; simp only at h1; rw [h1.1]; have := h1.2.few; omega)
        clear q0 q1 q2 p0 p1 p2 f0 f1 f2
        go_cut [10] from 38 to 44 (fun v10 wx => ∃ s Ad ld cd, v10 = .pointer (some ⟨s, 0, none⟩) ∧ Hid (Blk wx s 74 #[.int .i64 M.n, .slice A5 es.length c5, .slice Ad ld cd, .int .i64 0]) ∧ Hid (CsN (fun b => w5.heap.size ≤ b) wx (.slice Ad ld cd) (diffM L.e es)) ∧ Hid (Bl w5.heap.size w5 wx) ∧ Hid (w5.heap.size ≤ s))
        case first =>
          have E0 : Hid (Below w5.heap.size w5 w5.drew) := Lib.hid ((Bl.start w5).drewN 1).1
          have E1 : Hid (Below w5.heap.size w5 (w5.alloc (.cells #[.int .i64 0, .slice none 0 0, .slice none 0 0, .int .i64 0] 74)).drew) := Lib.hid (((Bl.start w5).alloc _).drewN 1).1
          have ZB : Hid (Blk (w5.alloc (.cells #[.int .i64 0, .slice none 0 0, .slice none 0 0, .int .i64 0] 74)).drew w5.heap.size 74 #[.int .i64 0, .slice none 0 0, .slice none 0 0, .int .i64 0]) := Lib.hid (Blk.new w5 _ _)
          have DF := Lib.hid (fun W (hW : Below w5.heap.size w5 W) => rdiff_any (HE5.out.toEs.below hW) (E5.out.toEs.below hW) LE.out.1 LES.out.1)
          go_region_held3 (fun W => W.cell? ⟨g, 1, none⟩ = some (.int .i64 M.n))
            (first | (with_reducible exact ST.out _ E0.out) | (with_reducible exact ST.out _ E1.out) | (refine ST.out _ (show Bl w5.heap.size w5 _ from ?_).1; repeat' (first | (with_reducible exact BL6.out) | (with_reducible refine Bl.alloc ?_ _) | (with_reducible refine Bl.setCell ?_ ?_ _) | (with_reducible exact SLE.out) | (exact Nat.le_refl _))))
            (first
              | (go_at_call 44; (with_reducible refine (DF.out _ E0.out).mono ?_); rintro e w6 ⟨v6, rfl, hcs, hb⟩; have C6 := Lib.hid hcs; have BL6 := Lib.hid ((Bl.start w5).drew.call hb); have SLE : Hid (w5.heap.size ≤ w6.heap.size) := Lib.hid BL6.out.2; obtain ⟨Ad, cd, hv6⟩ := hcs.toCs.shape; subst hv6; clear hcs hb)
              | (go_at_call 44; (with_reducible refine (DF.out _ E1.out).mono ?_); rintro e w6 ⟨v6, rfl, hcs, hb⟩; have C6 := Lib.hid hcs; have BL6 := Lib.hid (((Bl.start w5).alloc (.cells #[.int .i64 0, .slice none 0 0, .slice none 0 0, .int .i64 0] 74)).drew.call hb); have ZB6 := Lib.hid (ZB.out.below hb); have k0 := ZB6.out.cell 0; have k1 := ZB6.out.cell 1; have k2 := ZB6.out.cell 2; have k3 := ZB6.out.cell 3; simp only [List.getElem?_toArray, List.getElem?_cons_succ, List.getElem?_cons_zero] at k0 k1 k2 k3; have f0 := ZB6.out.frozen 0; have f1 := ZB6.out.frozen 1; have f2 := ZB6.out.frozen 2; have f3 := ZB6.out.frozen 3; obtain ⟨Ad, cd, hv6⟩ := hcs.toCs.shape; subst hv6; clear hcs hb))
          · go_wp2_with fail
            go_meet
            exact ⟨w6.heap.size, Ad, (diffM L.e es).length, cd, rfl, Lib.hid (Blk.new w6 _ _), Lib.hid (C6.out.below ((Below.refl _ _).alloc (Nat.le_refl _) _)), Lib.hid (BL6.out.alloc _), SLE⟩
          · go_wp2_with fail
            go_meet
            obtain ⟨W4, hW4, bl4, ff4, bk4⟩ := put4 ZB6.out BL6.out (Nat.le_refl _) (.int .i64 M.n) (.slice A5 es.length c5) (.slice Ad (diffM L.e es).length cd) (.int .i64 0)
            rw [← hW4]
            have sz : (w5.alloc (.cells #[.int .i64 0, .slice none 0 0, .slice none 0 0, .int .i64 0] 74)).drew.heap.size = w5.heap.size + 1 := by show (World.alloc _ _).heap.size = _; simp
            exact ⟨w5.heap.size, Ad, (diffM L.e es).length, cd, rfl, Lib.hid bk4, Lib.hid ((C6.out.far ff4 (fun b hb _ e => by have e1 : b = w5.heap.size := e; have h9 : _ ≤ b := hb; rw [sz] at h9; omega)).mono (fun b hb _ => by have h9 : _ ≤ b := hb; rw [sz] at h9; omega)), Lib.hid bl4, Lib.hid (Nat.le_refl _)⟩
        case rest =>
          obtain ⟨s, Ad, ld, cd, e10, BS, CD, BX, SGE⟩ := hcut
          rename World => w6
          subst e10
          have BG6 := Lib.hid (BG5.out.below BX.out.1)
          have BP6 := Lib.hid (BP5.out.below BX.out.1)
          have BW6 := Lib.hid (BW5.out.call BX.out.1)
          have E6 := Lib.hid (E5.out.below BX.out.1)
          go_upto_region 10 with (fail)
          clear ST
          have gl : g < w6.heap.size := BG6.out.lt
          have sl : s < w6.heap.size := BS.out.lt
          have q2 := BG6.out.cell 2
          have s0 := BS.out.cell 0
          have s1 := BS.out.cell 1
          have s2 := BS.out.cell 2
          have s3 := BS.out.cell 3
          simp only [List.getElem?_toArray, List.getElem?_cons_succ, List.getElem?_cons_zero] at q2 s0 s1 s2 s3
          have GL6 := Lib.hid gl
          have NE := Lib.hid (own_empty w6 74 4)
          have L1 : Hid (((w6.alloc (.cells #[] 74)).drew).ownsRow w6.heap.size 74 4 (.slice (some ⟨w6.heap.size, 0, none⟩) 0 0) 0 []) := Lib.hid (own_drewN NE.out 1)
          have L2 : Hid ((((w6.alloc (.cells #[] 74)).alloc (.cells #[.int .i64 M.n, .slice A5 es.length c5, .slice Ad ld cd, .int .i64 0] 74)).drew).ownsRow w6.heap.size 74 4 (.slice (some ⟨w6.heap.size, 0, none⟩) 0 0) 0 []) := Lib.hid (own_drewN (World.ownsRow.alloc NE.out _) 1)
          have L3 : Hid ((((w6.alloc (.cells #[.int .i64 M.n, .slice A5 es.length c5, .slice Ad ld cd, .int .i64 0] 74)).alloc (.cells #[] 74)).drew).ownsRow w6.heap.size 74 4 (.slice (some ⟨w6.heap.size + 1, 0, none⟩) 0 0) 0 []) := Lib.hid (own_drewN (row_mono (by have := own_empty (w6.alloc (.cells #[.int .i64 M.n, .slice A5 es.length c5, .slice Ad ld cd, .int .i64 0] 74)) 74 4; rwa [World.size_alloc] at this) (Nat.le_succ _)) 1)
          have B1 : Hid (Bl w6.heap.size w6 ((w6.alloc (.cells #[] 74)).drew)) := Lib.hid (((Bl.start w6).alloc _).drewN 1)
          have B2 : Hid (Bl w6.heap.size w6 (((w6.alloc (.cells #[] 74)).alloc (.cells #[.int .i64 M.n, .slice A5 es.length c5, .slice Ad ld cd, .int .i64 0] 74)).drew)) := Lib.hid ((((Bl.start w6).alloc _).alloc _).drewN 1)
          have B3 : Hid (Bl w6.heap.size w6 (((w6.alloc (.cells #[.int .i64 M.n, .slice A5 es.length c5, .slice Ad ld cd, .int .i64 0] 74)).alloc (.cells #[] 74)).drew)) := Lib.hid ((((Bl.start w6).alloc _).alloc _).drewN 1)
          have M2 : Hid (Blk (((w6.alloc (.cells #[] 74)).alloc (.cells #[.int .i64 M.n, .slice A5 es.length c5, .slice Ad ld cd, .int .i64 0] 74)).drew) (w6.heap.size + 1) 74 #[.int .i64 M.n, .slice A5 es.length c5, .slice Ad ld cd, .int .i64 0]) := Lib.hid (by have := Blk.new (w6.alloc (.cells #[] 74)) 74 #[.int .i64 M.n, .slice A5 es.length c5, .slice Ad ld cd, .int .i64 0]; rw [World.size_alloc] at this; exact this)
          have M3 : Hid (Blk (((w6.alloc (.cells #[.int .i64 M.n, .slice A5 es.length c5, .slice Ad ld cd, .int .i64 0] 74)).alloc (.cells #[] 74)).drew) w6.heap.size 74 #[.int .i64 M.n, .slice A5 es.length c5, .slice Ad ld cd, .int .i64 0]) := Lib.hid ((Blk.new w6 74 #[.int .i64 M.n, .slice A5 es.length c5, .slice Ad ld cd, .int .i64 0]).alloc _)
          have SQ : Hid (∀ W, Below w6.heap.size w6 W → Vs W (some ⟨bb, oo, none⟩) (flatR rs)) := Lib.hid (fun W hW => (VS0.out.below BW6.out.1).below hW)
          have FL : Hid ((flatR rs).length = q * 4) := Lib.hid (by rw [flatR_length, RLEN.out, QM.out])
          have N1 : Hid (0 + q ≤ 1000000) := Lib.hid (by omega)
          have N3 : Hid (q + 1 ≤ 1000000) := Lib.hid (by omega)
          have OM : Hid (∀ y ∈ ([.int .i64 M.n, .slice A5 es.length c5, .slice Ad ld cd, .int .i64 0] : List Value), y.oneCell' = true) := Lib.hid (by intro y hy; simp only [List.mem_cons, List.not_mem_nil, or_false] at hy; rcases hy with rfl | rfl | rfl | rfl <;> rfl)
          go_cut [10] from 45 to 52 (fun v10 wx => ∃ A6 c6, v10 = .pointer (some ⟨s, 0, none⟩) ∧ Hid (Blk wx g 37 #[.int .i64 M.w, .int .i64 M.n, .slice A6 (q + 1) c6]) ∧ Hid (wx.ownsRow w6.heap.size 74 4 (.slice A6 (q + 1) c6) (q + 1) (flatR rs ++ [.int .i64 M.n, .slice A5 es.length c5, .slice Ad ld cd, .int .i64 0])) ∧ Hid (Far (fun i => i = g) w6 wx))
          case first =>
            go_region_law (first
              | (refine step_append_shown elemRV infoRV rfl (by decide) (by decide) rfl (.tmp 45) (.tmp 47) rfl rfl w6.heap.size _ 0 [] (some ⟨bb, oo, none⟩) q c (flatR rs) rfl rfl L1.out FL.out (SQ.out _ B1.out.1) OMR.out N1.out B1.out.2 ?_; intro v5 w7 own5 gr5 ob5; clear ob5; rw [List.nil_append, Nat.zero_add] at own5; have b5 := B1.out.grownRow L1.out (Nat.le_refl _) gr5; have B5 := Lib.hid b5; have O5 := Lib.hid own5; (have Y5 := Lib.hid (BS.out.below b5.1)); (have yb0 := Y5.out.cell 0); (have yb1 := Y5.out.cell 1); (have yb2 := Y5.out.cell 2); (have yb3 := Y5.out.cell 3); (simp only [List.getElem?_toArray, List.getElem?_cons_succ, List.getElem?_cons_zero] at yb0 yb1 yb2 yb3); clear own5 gr5 b5)
              | (refine step_append_shown elemRV infoRV rfl (by decide) (by decide) rfl (.tmp 45) (.tmp 47) rfl rfl w6.heap.size _ 0 [] (some ⟨bb, oo, none⟩) q c (flatR rs) rfl rfl L2.out FL.out (SQ.out _ B2.out.1) OMR.out N1.out B2.out.2 ?_; intro v5 w7 own5 gr5 ob5; clear ob5; rw [List.nil_append, Nat.zero_add] at own5; have b5 := B2.out.grownRow L2.out (Nat.le_refl _) gr5; have B5 := Lib.hid b5; have O5 := Lib.hid own5; (have MB5 := Lib.hid (M2.out.grown gr5 (own_ne (by omega)))); clear own5 gr5 b5)
              | (refine step_append_shown elemRV infoRV rfl (by decide) (by decide) rfl (.tmp 45) (.tmp 47) rfl rfl w6.heap.size _ 0 [] (some ⟨bb, oo, none⟩) q c (flatR rs) rfl rfl L3.out FL.out (SQ.out _ B3.out.1) OMR.out N1.out B3.out.2 ?_; intro v5 w7 own5 gr5 ob5; clear ob5; rw [List.nil_append, Nat.zero_add] at own5; have b5 := B3.out.grownRow L3.out (Nat.le_refl _) gr5; have B5 := Lib.hid b5; have O5 := Lib.hid own5; (have MB5 := Lib.hid (M3.out.grown gr5 (own_ne (by omega)))); clear own5 gr5 b5)
              | (refine step_append_own elemRV infoRV rfl (by decide) (by decide) rfl (.tmp 48) (.tmp 50) rfl rfl w6.heap.size _ _ (flatR rs) w7.heap.size 0 1 1 [.int .i64 M.n, .slice A5 es.length c5, .slice Ad ld cd, .int .i64 0] rfl rfl (World.ownsRow.alloc O5.out _) rfl (fun j y h => new_cells w7 74 [.int .i64 M.n, .slice A5 es.length c5, .slice Ad ld cd, .int .i64 0] j y h) OM.out N3.out (B5.out.alloc _).2 ?_; intro v6 w8 own6 gr6 ob6; clear ob6; have b6 := (B5.out.alloc _).grownRow (World.ownsRow.alloc O5.out _) (Nat.le_refl _) gr6; have B6 := Lib.hid b6; have O6 := Lib.hid own6; obtain ⟨A6, c6, hv6⟩ := own_shape own6; subst hv6; (have z2 := (BG6.out.below b6.1).cell 2); (have zf2 := (BG6.out.below b6.1).frozen 2); (simp only [List.getElem?_toArray, List.getElem?_cons_succ, List.getElem?_cons_zero] at z2); clear own6 gr6 b6)
              | (refine step_append_own elemRV infoRV rfl (by decide) (by decide) rfl (.tmp 48) (.tmp 50) rfl rfl w6.heap.size _ _ (flatR rs) (w6.heap.size + 1) 0 1 1 [.int .i64 M.n, .slice A5 es.length c5, .slice Ad ld cd, .int .i64 0] rfl rfl O5.out rfl (fun j y h => by rw [Nat.zero_add, MB5.out.cell, ← Array.getElem?_toList]; exact h) OM.out N3.out B5.out.2 ?_; intro v6 w8 own6 gr6 ob6; clear ob6; have b6 := B5.out.grownRow O5.out (Nat.le_refl _) gr6; have B6 := Lib.hid b6; have O6 := Lib.hid own6; obtain ⟨A6, c6, hv6⟩ := own_shape own6; subst hv6; (have z2 := (BG6.out.below b6.1).cell 2); (have zf2 := (BG6.out.below b6.1).frozen 2); (simp only [List.getElem?_toArray, List.getElem?_cons_succ, List.getElem?_cons_zero] at z2); clear own6 gr6 b6)
              | (refine step_append_own elemRV infoRV rfl (by decide) (by decide) rfl (.tmp 48) (.tmp 50) rfl rfl w6.heap.size _ _ (flatR rs) w6.heap.size 0 1 1 [.int .i64 M.n, .slice A5 es.length c5, .slice Ad ld cd, .int .i64 0] rfl rfl O5.out rfl (fun j y h => by rw [Nat.zero_add, MB5.out.cell, ← Array.getElem?_toList]; exact h) OM.out N3.out B5.out.2 ?_; intro v6 w8 own6 gr6 ob6; clear ob6; have b6 := B5.out.grownRow O5.out (Nat.le_refl _) gr6; have B6 := Lib.hid b6; have O6 := Lib.hid own6; obtain ⟨A6, c6, hv6⟩ := own_shape own6; subst hv6; (have z2 := (BG6.out.below b6.1).cell 2); (have zf2 := (BG6.out.below b6.1).frozen 2); (simp only [List.getElem?_toArray, List.getElem?_cons_succ, List.getElem?_cons_zero] at z2); clear own6 gr6 b6))
            all_goals (
              go_wp2_with fail
              go_meet
              have ff := (farEv_below g B6.out.1).setCell (p := ⟨g, 2, none⟩) (fun _ => rfl) (.slice A6 (q + 1) c6)
              have bb8 := (BG6.out.below B6.out.1).set 2 (.slice A6 (q + 1) c6)
              simp only [List.setIfInBounds_toArray, List.set_cons_succ, List.set_cons_zero] at bb8
              exact ⟨A6, c6, rfl, Lib.hid bb8, Lib.hid (own_far O6.out ((Far.refl (fun i => i = g) _).setCell (p := ⟨g, 2, none⟩) (fun _ => rfl) (.slice A6 (q + 1) c6)) (fun b hb e => by have e1 : b = g := e; have h9 := (O6.out.lt b hb).1; have := GL6.out; omega)), Lib.hid ff⟩)
          case rest =>
            obtain ⟨A6, c6, e10, BG8, OW8, F8⟩ := hcut
            rename World => w8
            subst e10
            have BP8 := Lib.hid (BP6.out.far F8.out (fun e => GP.out e.symm))
            have BS8 := Lib.hid (BS.out.far F8.out (fun e => by have e1 : s = g := e; have := SGE.out; have := BG5.out.lt; omega))
            have BW8 := Lib.hid (Far.bl BW6.out F8.out (fun i e => by rw [e]; exact GW.out))
            have PB : Hid (p < w2.heap.size ∧ g < w2.heap.size) := Lib.hid ⟨BP.out.lt, BG.out.lt⟩
            have S25 : Hid (w2.heap.size ≤ w5.heap.size) := Lib.hid (by have := BG3.out; have h1 := HB23.out.size; have := S35.out; omega)
            have RAW : Hid (Rv (fun b => (N b ∧ b < w.heap.size) ∨ w2.heap.size ≤ b) w8 (rs ++ [⟨M.n, .slice A5 es.length c5, .slice Ad ld cd, 0⟩]) (M.all ++ [⟨M.n, es, diffM L.e es, 0⟩])) := Lib.hid (by
              have rv6 := ((RV0.out.below BW6.out.1).far F8.out (fun b hb _ e => by have e1 : b = g := e; have := hb.2; have := GW.out; omega)).mono (N' := fun b => (N b ∧ b < w.heap.size) ∨ w2.heap.size ≤ b) (fun b hb _ => .inl hb)
              have e6 : EsN (fun b => (N b ∧ b < w.heap.size) ∨ w2.heap.size ≤ b) w8 (.slice A5 es.length c5) es := (E6.out.far F8.out (fun b hb _ e => by have e1 : b = g := e; have h9 : (N b ∧ b < w.heap.size) ∨ w3.heap.size ≤ b := hb; have := GW.out; have := PB.out.2; have := HB23.out.size; omega)).mono (fun b hb _ => by have h9 : (N b ∧ b < w.heap.size) ∨ w3.heap.size ≤ b := hb; have := HB23.out.size; rcases h9 with h9 | h9; exact .inl h9; exact .inr (by omega))
              have c6' : CsN (fun b => (N b ∧ b < w.heap.size) ∨ w2.heap.size ≤ b) w8 (.slice Ad ld cd) (diffM L.e es) := (CD.out.far F8.out (fun b hb _ e => by have e1 : b = g := e; have h9 : w5.heap.size ≤ b := hb; have := S25.out; have := PB.out.2; omega)).mono (fun b hb _ => by have h9 : w5.heap.size ≤ b := hb; have := S25.out; exact .inr (by omega))
              exact rv6.append (Rv.single ⟨rfl, rfl, e6, c6'⟩))
            have q0 := BG8.out.cell 0
            have q1 := BG8.out.cell 1
            have q2 := BG8.out.cell 2
            have f1 := BG8.out.frozen 1
            simp only [List.getElem?_toArray, List.getElem?_cons_succ, List.getElem?_cons_zero] at q0 q1 q2
            clear L1 L2 L3 B1 B2 B3 M2 M3 NE gl sl s0 s1 s2 s3
            go_upto_region 12 with (fail)
            have FG := Lib.hid ((Far.refl (fun i => i = g) w8).setCell (p := ⟨g, 1, none⟩) (fun _ => rfl) (.int .i64 (M.n + 1)))
            have BG9 := Lib.hid (BG8.out.set 1 (.int .i64 (M.n + 1)))
            simp only [List.setIfInBounds_toArray, List.set_cons_succ, List.set_cons_zero] at BG9
            have BW9 := Lib.hid (BW8.out.setCell (p := ⟨g, 1, none⟩) GW.out (.int .i64 (M.n + 1)))
            have BP9 := Lib.hid (BP8.out.far FG.out (fun e => GP.out e.symm))
            have BS9 := Lib.hid (BS8.out.far FG.out (fun e => by have e1 : s = g := e; have := SGE.out; have := BG5.out.lt; omega))
            have OW9 := Lib.hid (own_far OW8.out FG.out (fun b hb e => by have e1 : b = g := e; have h9 := (OW8.out.lt b hb).1; have := GL6.out; omega))
            have RAW9 := Lib.hid (RAW.out.far FG.out (fun b hb _ e => by have e1 : b = g := e; have h9 : (N b ∧ b < w.heap.size) ∨ w2.heap.size ≤ b := hb; have := GW.out; have := PB.out.2; omega))
            have S89 : Hid (w8.heap.size ≤ (w8.setCell ⟨g, 1, none⟩ (.int .i64 (M.n + 1))).heap.size) := Lib.hid FG.out.size
            generalize w8.setCell ⟨g, 1, none⟩ (.int .i64 (M.n + 1)) = w9 at *
            clear q0 q1 q2 f1 BG8 BP8 BS8 BW8 OW8 RAW FG
            have S26 : Hid (w2.heap.size ≤ w6.heap.size) := Lib.hid (by have := S25.out; have := BX.out.2; omega)
            have MD9 : Hid (Md (fun b => (N b ∧ b < w.heap.size) ∨ w2.heap.size ≤ b) w9 (.agg #[.int .i64 M.w, .int .i64 (M.n + 1), .slice A6 (q + 1) c6]) (addM M es)) := Lib.hid ⟨_, rfl, by
              have h9 : w9.ownsRow w6.heap.size 74 4 (.slice A6 (q + 1) c6) (q + 1) (flatR (rs ++ [⟨M.n, .slice A5 es.length c5, .slice Ad ld cd, 0⟩])) := by rw [flatR_append]; exact OW9.out
              have hlen : (addM M es).all.length = q + 1 := by unfold addM; simp only [List.length_append, List.length_cons, List.length_nil]; rw [QM.out]
              have hall : (addM M es).all = M.all ++ [⟨M.n, es, diffM L.e es, 0⟩] := by unfold addM; rw [HLV.out]
              rw [← hlen] at h9 ⊢
              rw [hall] at h9 ⊢
              exact Vl.of_own h9 RAW9.out (fun b hb => .inr (Nat.le_trans S26.out hb))⟩
            have PR := Lib.hid (fun W (hW : Below w9.heap.size w9 W) => rpruned_any (MD9.out.below hW) r1 r2 (show 1 ≤ (addM M es).n by unfold addM; simp only; omega) (show (addM M es).n ≤ 1048576 by unfold addM; simp only; omega) (by unfold addM; simp only [List.length_append, List.length_cons, List.length_nil]; rw [← QM.out]; omega))
            rw [← HK.out] at PR
            have PS : Hid (¬ p = s ∧ ¬ p = g) := Lib.hid ⟨by have := SGE.out; have := BP5.out.lt; omega, fun e => GP.out e.symm⟩
            have ST : Hid (∀ W, Far (fun i => i = p) w9 W → W.cell? ⟨g, 0, none⟩ = some (.int .i64 M.w) ∧ W.cell? ⟨g, 1, none⟩ = some (.int .i64 (M.n + 1)) ∧ W.cell? ⟨g, 2, none⟩ = some (.slice A6 (q + 1) c6) ∧ W.cell? ⟨s, 0, none⟩ = some (.int .i64 M.n)) := Lib.hid (fun W hW => by
              have k1 := BG9.out.far hW (fun e => PS.out.2 e.symm)
              have k2 := BS9.out.far hW (fun e => PS.out.1 e.symm)
              exact ⟨by simpa using k1.cell 0, by simpa using k1.cell 1, by simpa using k1.cell 2, by simpa using k2.cell 0⟩)
            have F0 : Hid (Far (fun i => i = p) w9 w9.drew) := Lib.hid (Far.refl _ w9).drew
            have G0 : Hid (Below w9.heap.size w9 w9.drew) := Lib.hid ((Bl.start w9).drewN 1).1
            have BP0 : Hid (Blk w9.drew p 37 #[.int .i64 0, .int .i64 0, .slice none 0 0]) := Lib.hid BP9.out
            have BW0 : Hid (Bl w.heap.size w w9.drew) := Lib.hid (BW9.out.drewN 1)
            go_region_held3 (fun W => W.cell? ⟨g, 0, none⟩ = some (.int .i64 M.w) ∧ W.cell? ⟨g, 1, none⟩ = some (.int .i64 (M.n + 1)) ∧ W.cell? ⟨g, 2, none⟩ = some (.slice A6 (q + 1) c6) ∧ W.cell? ⟨s, 0, none⟩ = some (.int .i64 M.n))
              (first | (with_reducible exact ST.out _ F0.out) | (with_reducible exact ST.out _ F1.out) | (with_reducible exact ST.out _ F2.out))
              (first
                | (go_at_call 59; (with_reducible refine (PR.out _ G0.out).mono ?_); rintro e w10 ⟨v10, rfl, hmd, hb⟩; obtain ⟨u10, hv10, hvl⟩ := hmd; obtain ⟨A10, c10, hs10⟩ := hvl.shape; subst hs10; subst hv10; have VL10 := Lib.hid hvl; have F1 := Lib.hid (farEv_trans p _ _ _ F0.out (farEv_below p hb)); have F2 := Lib.hid (((F1.out.setCell (p := ⟨p, 0, none⟩) (fun _ => rfl) (.int .i64 K.w)).setCell (p := ⟨p, 1, none⟩) (fun _ => rfl) (.int .i64 K.n)).setCell (p := ⟨p, 2, none⟩) (fun _ => rfl) (.slice A10 K.all.length c10)); have BP10 := Lib.hid (BP0.out.below hb); have BW10 := Lib.hid (BW0.out.call hb); have S910 := Lib.hid hb.size; have r0 := BP10.out.cell 0; have r1' := BP10.out.cell 1; have r2' := BP10.out.cell 2; (simp only [List.getElem?_toArray, List.getElem?_cons_succ, List.getElem?_cons_zero] at r0 r1' r2'); have e0 := BP10.out.frozen 0; have e1 := BP10.out.frozen 1; have e2 := BP10.out.frozen 2; clear hb hvl))
            go_wp2_with fail
            obtain ⟨W', hW', bw', ff', bp'⟩ := put3 BP10.out BW10.out PW.out (.int .i64 K.w) (.int .i64 K.n) (.slice A10 K.all.length c10)
            rw [← hW']
            refine bodyPost_ret (results_r3 rfl _ _ _ rfl rfl rfl bp') rfl ?_
            refine ⟨.agg #[.int .i64 K.w, .int .i64 K.n, .slice A10 K.all.length c10], by rw [HA.out]; rfl, ?_, bw'.1⟩
            rw [HA.out]
            have SZ9 : w9.drew.heap.size = w9.heap.size := rfl
            have W29 : w2.heap.size ≤ w9.heap.size := by have h1 := S26.out; have h2 := F8.out.size; have h3 := BW9.out.2; exact Nat.le_trans h1 (Nat.le_trans h2 S89.out)
            have W2 : w.heap.size ≤ w2.heap.size := BW.out.2
            refine ⟨_, rfl, (VL10.out.far ff' (fun b hb _ e => ?_)).mono (fun b hb _ => ?_)⟩
            · have e1 : b = p := e
              have := PW.out
              have := PB.out.1
              have h9 : ((N b ∧ b < w.heap.size) ∨ w2.heap.size ≤ b) ∨ w9.drew.heap.size ≤ b := hb
              rw [SZ9] at h9
              omega
            · have h9 : ((N b ∧ b < w.heap.size) ∨ w2.heap.size ≤ b) ∨ w9.drew.heap.size ≤ b := hb
              rw [SZ9] at h9
              rcases h9 with (h9 | h9) | h9
              · exact .inl h9
              · exact .inr (by omega)
              · exact .inr (by omega)
    · have her1 : (er == 0) = false := beq_eq_false_iff_ne.2 her
      have her2 : (er != 0) = true := bne_iff_ne.2 her
      have HA : Hid (commitM M cs = (M, 0, er)) := Lib.hid (by unfold commitM; rw [hvd, ← HLV.out, ← HR.out]; simp [her])
      clear hvd her hq
      go_enter Try.func33, Try.ntmps33
      go_upto_region 1 with (fail)
      rw [← hw, ← hp, ← hg]
      clear hw hp hg
      go_wp2_with (first
        | (go_at_call 16; refine VD.out.mono ?_; rintro e w3 ⟨rfl, hb⟩; have BG3 := Lib.hid (BG.out.below hb); have BP3 := Lib.hid (BP.out.below hb); have BW3 := Lib.hid (BW.out.call hb); have HB23 := Lib.hid hb; clear hb q0 q1 q2; have q0 := BG3.out.cell 0; have q1 := BG3.out.cell 1; have q2 := BG3.out.cell 2; have p0 := BP3.out.cell 0; have p1 := BP3.out.cell 1; have p2 := BP3.out.cell 2; simp only [List.getElem?_toArray, List.getElem?_cons_succ, List.getElem?_cons_zero] at q0 q1 q2 p0 p1 p2; have f0 := BP3.out.frozen 0; have f1 := BP3.out.frozen 1; have f2 := BP3.out.frozen 2; have y1 := D1.out _ BW3.out.1)
        | (go_at_call 58; refine (AP.out _ BW3.out.1).mono ?_; rintro e w5 ⟨v5, rfl, hes, hb⟩; have E5 := Lib.hid hes; have BG5 := Lib.hid (BG3.out.below hb); have BP5 := Lib.hid (BP3.out.below hb); have BW5 := Lib.hid (BW3.out.call hb); have S35 := Lib.hid hb.size; clear hb hes y1 q0 q1 q2 p0 p1 p2 f0 f1 f2; have q0 := BG5.out.cell 0; have q1 := BG5.out.cell 1; have q2 := BG5.out.cell 2; have p0 := BP5.out.cell 0; have p1 := BP5.out.cell 1; have p2 := BP5.out.cell 2; simp only [List.getElem?_toArray, List.getElem?_cons_succ, List.getElem?_cons_zero] at q0 q1 q2 p0 p1 p2; have f0 := BP5.out.frozen 0; have f1 := BP5.out.frozen 1; have f2 := BP5.out.frozen 2))
      obtain ⟨W', hW', bp', hM', bl'⟩ := back3T (g := g) H.out BP5.out BW5.out PW.out
      rw [← hW']
      refine bodyPost_ret (results_r3 rfl _ _ _ rfl rfl rfl bp') rfl ?_
      exact ⟨.agg #[.int .i64 M.w, .int .i64 M.n, .slice (some ⟨bb, oo, none⟩) q c], by rw [HA.out]; rfl, by rw [HA.out]; exact hM', bl'⟩
end Go.Proofs.Ytdahhnefcageeaa

/-
  ModelChanges: the walk (written by makers/mdllaws.py).
-/
import Derived.Test.YtdahhnefcageeaaMdlWindow
import Derived.Test.YtdahhnefcageeaaMdlBetween
import Derived.Test.YtdahhnefcageeaaMdlChgP
import Derived.Deep.RegionHeld3
import Derived.Deep.CutRange
namespace Go.Proofs.Ytdahhnefcageeaa
open Go.RowKit Go.Proofs.Mdl
set_option linter.unusedVariables false
set_option linter.unusedSimpArgs false
set_option maxRecDepth 100000 in
set_option maxHeartbeats 4000000 in
theorem changes_walk (w : World) (n : Int) (A : Option Addr) (c : Nat) (l : List Mdl.Act) (h : Lk w A l) :
    Calls Try.prog 6 #[.int .i64 n, .slice A l.length c] w fun e w' => e = .returned (.bool true) ∧ Below w.heap.size w w' := by
  have WK := Lib.hid (fun W => works_any W)
  have FW := Lib.hid (fun W (hW : Below w.heap.size w W) => few_any (c := c) (h.below hW))
  have NW := Lib.hid (fun W => new_any n W)
  have HL := Lib.hid h
  obtain ⟨z, hz⟩ : ∃ z, z = l.length := ⟨_, rfl⟩
  have HZ := Lib.hid hz
  rw [← hz] at FW ⊢
  have W0 := Lib.hid (Bl.start w)
  clear h hz
  go_enter Try.func6, Try.ntmps6
  go_upto_region 5 with (first
    | (go_at_call 9; refine (WK.out _).mono ?_; rintro e w1 ⟨rfl, hb⟩; have W1 := Lib.hid (W0.out.call hb); clear hb)
    | (go_at_call 11; refine (FW.out _ W1.out.1).mono ?_; rintro e w2 ⟨⟨bf, rfl, hbf, rfl⟩⟩; have HBF := Lib.hid hbf; clear hbf))
  cases bf with
  | false =>
    go_wp2_with fail
    go_ret
    exact ⟨rfl, W1.out.1⟩
  | true =>
    obtain ⟨fl, fc⟩ := HBF.out rfl
    have FC := Lib.hid fc
    have zl : z ≤ 30 := by have := HZ.out; omega
    clear fl fc HBF FW WK
    go_upto_region 8 with (go_at_call 25; refine (NW.out _).mono ?_; rintro e w3 ⟨v3, rfl, hmd, hb⟩; obtain ⟨u3, hv3, hvl⟩ := hmd; obtain ⟨A3, c3, hs3⟩ := hvl.shape; subst hs3; subst hv3; have VL3 := Lib.hid hvl; have W3 := Lib.hid (W1.out.call hb); clear hb hvl)
    have bl4 : Below w3.heap.size w3 (w3.alloc (.cells #[.int .i64 (newM n).w, .int .i64 (newM n).n, .slice A3 (newM n).all.length c3] 24)) := (Below.refl _ _).alloc (Nat.le_refl _) _
    have HM4 : Hid (Hm (w3.alloc (.cells #[.int .i64 (newM n).w, .int .i64 (newM n).n, .slice A3 (newM n).all.length c3] 24)) w3.heap.size (newM n)) := Lib.hid ⟨A3, c3, Blk.new w3 _ _, ⟨_, rfl, (VL3.out.mono (N' := fun b => ¬ b = w3.heap.size) (fun b _ hb => by omega)).below bl4⟩⟩
    have W4 := Lib.hid (W3.out.call bl4)
    have GW := Lib.hid W3.out.2
    clear bl4
    generalize w3.alloc (.cells #[.int .i64 (newM n).w, .int .i64 (newM n).n, .slice A3 (newM n).all.length c3] 24) = w4 at *
    generalize w3.heap.size = g at *
    go_wp2_with fail
    go_loopw [8, 9, 10, 11, 12, 13, 14, 15] (fun vi _ _ _ _ _ _ _ wr => ∃ k : Nat, vi = .int .i64 (k : Int) ∧ k ≤ z ∧ Hid (Hm wr g (runM (newM n) (l.take k))) ∧ Hid (Bl w.heap.size w wr)) (fun vi _ _ _ _ _ _ _ _ => z - (intOf vi).toNat)
    case atStart => exact ⟨0, rfl, Nat.zero_le _, HM4, W4⟩
    case round =>
      clear HM4 W4
      obtain ⟨k, rfl, hk, HM, W4⟩ := hrel
      by_cases hlt : k < z
      · obtain ⟨x, hx⟩ : ∃ x, l[k]? = some x := ⟨_, List.getElem?_eq_getElem (by rw [← HZ.out]; exact hlt)⟩
        obtain ⟨b, o, rfl, hbl, vc, d0, d1, d2, hcs⟩ := (HL.out.below W4.out.1).at_ k x hx
        obtain ⟨A5, c5, hblk, hmd⟩ := HM.out
        have STEP := Lib.hid (runM_step (newM n) hx)
        obtain ⟨M, hM⟩ : ∃ M, M = runM (newM n) (l.take k) := ⟨_, rfl⟩
        have IM : Inv M := by rw [hM]; exact runM_inv _ (inv_new n)
        have LM : M.all.length ≤ 31 := by
          have h1 := runM_len (l.take k) (newM n)
          rw [← hM] at h1
          have h2 : (newM n).all.length = 1 := rfl
          rw [List.length_take] at h1
          omega
        rw [← hM] at hblk hmd STEP
        clear hM HM
        have CX := FC.out x (List.mem_of_getElem? hx)
        obtain ⟨xk, xc, xn⟩ := x
        simp only at d0 d1 d2 hcs
        have IR : Hid (Inv (doM M ⟨xk, xc, xn⟩).1) := Lib.hid (IM.act _)
        have DO := Lib.hid (fun W (hW : Below wr.heap.size wr W) => do_any (a := ⟨xk, xc, xn⟩) ((hmd.mono (N' := fun b => ¬ b = g ∧ b < wr.heap.size) (fun b h1 h2 => ⟨h1, h2⟩)).below hW) (hcs.below hW) (by omega) (invFew IM) (by simp only at CX ⊢; omega))
        have OK := Lib.hid (fun h1 h2 => do_ok (x := ⟨xk, xc, xn⟩) IM h1 h2)
        have ERR := Lib.hid (fun h1 => do_err (M := M) (x := ⟨xk, xc, xn⟩) h1)
        have LR : Hid ((doM M ⟨xk, xc, xn⟩).1.all.length ≤ 32) := Lib.hid (by have := act_len M ⟨xk, xc, xn⟩; omega)
        obtain ⟨A6, c6, rfl⟩ := hcs.shape
        have BG := Lib.hid hblk
        have i1 : (k : Int) < (z : Int) := by omega
        have wk : IntKind.i64.wrap ((k : Int) + 1) = (k : Int) + 1 := IntWalk.i64_in _ (by omega)
        obtain ⟨m, hm, hlast, hin⟩ := IM.some
        obtain ⟨q, hq⟩ : ∃ q, q = M.all.length := ⟨_, rfl⟩
        have QM := Lib.hid hq
        obtain ⟨u5, hu5, hvl5⟩ := hmd
        simp only [Value.agg.injEq, Array.mk.injEq, List.cons.injEq, true_and, and_true] at hu5
        subst hu5
        obtain ⟨bV, oV, cV, veL, vcL, he, hbV, hve, hvc, e0, e1, e2, e3⟩ := hvl5.at_ hlast
        simp only [Value.slice.injEq] at he
        obtain ⟨rfl, -, rfl⟩ := he
        obtain ⟨Ae, ce, rfl⟩ := hve.toEs.shape
        have EL := Lib.hid hve
        have VL := Lib.hid hvl5
        have GLL := Lib.hid (IM.ver _ hin).2.2.2.1
        have IV := Lib.hid IM
        have LM' := Lib.hid LM
        rw [← hq] at hm VL DO
        rw [← hq] at BG
        have wq : IntKind.i64.wrap ((q : Int) - 1) = (m : Int) := by rw [show (q : Int) - 1 = (m : Int) by omega]; exact IntWalk.i64_in _ (by omega)
        have jq : (m : Int) < (q : Int) := by omega
        have q0 := BG.out.cell 0
        have q1 := BG.out.cell 1
        have q2 := BG.out.cell 2
        simp only [List.getElem?_toArray, List.getElem?_cons_succ, List.getElem?_cons_zero] at q0 q1 q2
        have ST : Hid (∀ W, Below wr.heap.size wr W → W.cell? ⟨g, 0, none⟩ = some (.int .i64 M.w) ∧ W.cell? ⟨g, 1, none⟩ = some (.int .i64 M.n) ∧ W.cell? ⟨g, 2, none⟩ = some (.slice (some ⟨bV, oV, none⟩) q c5) ∧ W.cell? ⟨b, o + k * 3, none⟩ = some (.int .i64 xk) ∧ W.cell? ⟨b, o + k * 3 + 1, none⟩ = some (.slice A6 xc.length c6) ∧ W.cell? ⟨b, o + k * 3 + 2, none⟩ = some (.int .i64 xn)) := Lib.hid (fun W hW => ⟨(hW.cell (p := ⟨g, 0, none⟩) BG.out.lt).trans q0, (hW.cell (p := ⟨g, 1, none⟩) BG.out.lt).trans q1, (hW.cell (p := ⟨g, 2, none⟩) BG.out.lt).trans q2, (hW.cell (p := ⟨b, _, none⟩) hbl).trans d0, (hW.cell (p := ⟨b, _, none⟩) hbl).trans d1, (hW.cell (p := ⟨b, _, none⟩) hbl).trans d2⟩)
        have XK : Hid (∀ W, Below wr.heap.size wr W → W.cell? ⟨b, o + k * 3, none⟩ = some (.int .i64 xk)) := Lib.hid (fun W hW => (hW.cell (p := ⟨b, _, none⟩) hbl).trans d0)
        obtain ⟨K, hK⟩ : ∃ K, K = doM M ⟨xk, xc, xn⟩ := ⟨_, rfl⟩
        have HK := Lib.hid hK
        rw [← hK] at DO IR OK ERR LR
        clear hx hblk hcs IM LM CX hlast hin hve hvc hvl5 hq hm d0 d1 d2 hbl hbV hK
        obtain ⟨R, r1, r2⟩ := K
        simp only at DO IR OK ERR LR
        go_upto_region 12 with (fail)
        clear q0 q1 q2 e0 e1 e2 e3
        go_cut [10, 11, 12] from 47 to 56 (fun v10 v11 v12 wx => ∃ p A7 c7, v10 = .pointer (some ⟨p, 0, none⟩) ∧ v11 = .int .i64 r1 ∧ v12 = .int .i64 r2 ∧ Hid (Blk wx p 24 #[.int .i64 R.w, .int .i64 R.n, .slice A7 R.all.length c7]) ∧ Hid (Vl (fun b => ¬ b = g) wx (.slice A7 R.all.length c7) R.all) ∧ Hid (Bl wr.heap.size wr wx) ∧ Hid (wr.heap.size ≤ p))
        case first =>
          have E0 : Hid (Below wr.heap.size wr wr.drew) := Lib.hid ((Bl.start wr).drewN 1).1
          have E1 : Hid (Below wr.heap.size wr (wr.alloc (.cells #[.int .i64 0, .int .i64 0, .slice none 0 0] 24)).drew) := Lib.hid (((Bl.start wr).alloc _).drewN 1).1
          have ZB : Hid (Blk (wr.alloc (.cells #[.int .i64 0, .int .i64 0, .slice none 0 0] 24)).drew wr.heap.size 24 #[.int .i64 0, .int .i64 0, .slice none 0 0]) := Lib.hid (Blk.new wr _ _)
          go_region_held3 (fun W => W.cell? ⟨g, 0, none⟩ = some (.int .i64 M.w) ∧ W.cell? ⟨g, 1, none⟩ = some (.int .i64 M.n) ∧ W.cell? ⟨g, 2, none⟩ = some (.slice (some ⟨bV, oV, none⟩) q c5) ∧ W.cell? ⟨b, o + k * 3, none⟩ = some (.int .i64 xk) ∧ W.cell? ⟨b, o + k * 3 + 1, none⟩ = some (.slice A6 xc.length c6) ∧ W.cell? ⟨b, o + k * 3 + 2, none⟩ = some (.int .i64 xn))
            (first | (with_reducible exact ST.out _ E0.out) | (with_reducible exact ST.out _ E1.out) | (refine ST.out _ (show Bl wr.heap.size wr _ from ?_).1; repeat' (first | (with_reducible exact BL6.out) | (with_reducible refine Bl.alloc ?_ _) | (with_reducible refine Bl.setCell ?_ ?_ _) | (with_reducible exact SLE.out) | (exact Nat.le_refl _))))
            (first
              | (go_at_call 12; (with_reducible refine (DO.out _ E0.out).mono ?_); rintro e w6 ⟨v6, rfl, hmd, hb⟩; obtain ⟨u6, hv6, hvl⟩ := hmd; obtain ⟨A7, c7, hs6⟩ := hvl.shape; subst hs6; subst hv6; have VL6 := Lib.hid hvl; have BL6 := Lib.hid ((Bl.start wr).drew.call hb); have SLE : Hid (wr.heap.size ≤ w6.heap.size) := Lib.hid BL6.out.2; clear hvl hb)
              | (go_at_call 12; (with_reducible refine (DO.out _ E1.out).mono ?_); rintro e w6 ⟨v6, rfl, hmd, hb⟩; obtain ⟨u6, hv6, hvl⟩ := hmd; obtain ⟨A7, c7, hs6⟩ := hvl.shape; subst hs6; subst hv6; have VL6 := Lib.hid hvl; have BL6 := Lib.hid (((Bl.start wr).alloc (.cells #[.int .i64 0, .int .i64 0, .slice none 0 0] 24)).drew.call hb); have ZB6 := Lib.hid (ZB.out.below hb); have k0 := ZB6.out.cell 0; have k1 := ZB6.out.cell 1; have k2 := ZB6.out.cell 2; simp only [List.getElem?_toArray, List.getElem?_cons_succ, List.getElem?_cons_zero] at k0 k1 k2; have f0 := ZB6.out.frozen 0; have f1 := ZB6.out.frozen 1; have f2 := ZB6.out.frozen 2; clear hvl hb))
          · go_wp2_with fail
            go_meet
            exact ⟨w6.heap.size, A7, c7, rfl, rfl, rfl, Lib.hid (Blk.new w6 _ _), Lib.hid ((VL6.out.mono (fun b hb _ => by have h9 : (¬ b = g ∧ b < wr.heap.size) ∨ wr.heap.size ≤ b := hb; have := BG.out.lt; rcases h9 with h9 | h9; exact h9.1; omega)).below ((Below.refl _ _).alloc (Nat.le_refl _) _)), Lib.hid (BL6.out.alloc _), SLE⟩
          · go_wp2_with fail
            go_meet
            obtain ⟨W4', hW4, bl4, ff4, bk4⟩ := put3 ZB6.out BL6.out (Nat.le_refl _) (.int .i64 R.w) (.int .i64 R.n) (.slice A7 R.all.length c7)
            rw [← hW4]
            have sz : (wr.alloc (.cells #[.int .i64 0, .int .i64 0, .slice none 0 0] 24)).drew.heap.size = wr.heap.size + 1 := by show (World.alloc _ _).heap.size = _; simp
            exact ⟨wr.heap.size, A7, c7, rfl, rfl, rfl, Lib.hid bk4, Lib.hid ((VL6.out.far ff4 (fun b hb _ e => by have e1 : b = wr.heap.size := e; have h9 : (¬ b = g ∧ b < wr.heap.size) ∨ _ ≤ b := hb; rw [sz] at h9; omega)).mono (fun b hb _ => by have h9 : (¬ b = g ∧ b < wr.heap.size) ∨ _ ≤ b := hb; rw [sz] at h9; have := BG.out.lt; omega)), Lib.hid bl4, Lib.hid (Nat.le_refl _)⟩
        case rest =>
          obtain ⟨p, A7, c7, e10, e11, e12, BN, VN, BX, SGE⟩ := hcut
          subst e10
          subst e11
          subst e12
          obtain ⟨mr, hmr, hlr, hir⟩ := IR.out.some
          obtain ⟨qr, hqr⟩ : ∃ qr, qr = R.all.length := ⟨_, rfl⟩
          have QR := Lib.hid hqr
          rw [← hqr] at hmr VN BN LR
          have hqq : qr = mr + 1 := hmr
          have mq : ¬ qr = 0 := by omega
          have m0 : ((qr : Int) == 0) = false := by simp; omega
          have wq2 : IntKind.i64.wrap ((qr : Int) - 1) = (mr : Int) := by rw [show (qr : Int) - 1 = (mr : Int) by omega]; exact IntWalk.i64_in _ (by have := LR.out; omega)
          have jq2 : (mr : Int) < (qr : Int) := by omega
          obtain ⟨bN, oN, cN, veN, vcN, he, hbN, hve, hvc, e0, e1, e2, e3⟩ := VN.out.at_ hlr
          rw [← hqr] at he
          simp only [Value.slice.injEq] at he
          obtain ⟨rfl, -, rfl⟩ := he
          obtain ⟨AeN, ceN, rfl⟩ := hve.toEs.shape
          obtain ⟨AcN, ccN, rfl⟩ := hvc.toCs.shape
          have EN := Lib.hid hve.toEs
          have CN := Lib.hid hvc.toCs
          have BGc := Lib.hid (BG.out.below BX.out.1)
          have BWc := Lib.hid (W4.out.call BX.out.1)
          have ELc := Lib.hid (EL.out.toEs.below BX.out.1)
          have XKc := Lib.hid (XK.out _ BX.out.1)
          have XC := XKc.out
          have VLc := Lib.hid (VL.out.below BX.out.1)
          have q0 := BGc.out.cell 0
          have q1 := BGc.out.cell 1
          have q2 := BGc.out.cell 2
          have p0 := BN.out.cell 0
          have p1 := BN.out.cell 1
          have p2 := BN.out.cell 2
          have f0 := BGc.out.frozen 0
          have f1 := BGc.out.frozen 1
          have f2 := BGc.out.frozen 2
          simp only [List.getElem?_toArray, List.getElem?_cons_succ, List.getElem?_cons_zero] at q0 q1 q2 p0 p1 p2
          clear hve hvc hqr hmr hqq ST DO VL EL XK hlr hir BG W4
          by_cases hr : r2 = 0
          · subst hr
            by_cases hxk : xk = 0
            · subst hxk
              obtain ⟨rfl, es, ge, gl, hl⟩ := OK.out rfl rfl
              have AP := Lib.hid (fun W (hW : Below wc.heap.size wc W) => apply_inv gl ge (ELc.out.below hW) ((show Cs wc (.slice AcN (lastV R).c.length ccN) (diffM (lastV M).e es) by have := CN.out; rw [hl] at this ⊢; exact this).below hW))
              have SE := Lib.hid (fun W (hW : Below wc.heap.size wc W) => show Es W (.slice AeN (lastV R).e.length ceN) es by have := EN.out.below hW; rw [hl] at this ⊢; exact this)
              have hb1 : (lastV R).b = M.n := by rw [hl]
              have hnn : (M.n != M.n) = false := by simp
              have LES : Hid (es.length ≤ 1000) := Lib.hid (by have := ge.few; omega)
              rw [hb1] at e0
              clear hl gl ge hb1
              go_upto_region 17 with (fail)
              have bl := (Below.refl wc.heap.size wc).alloc (Nat.le_refl _) (.cells #[.int .i64 M.n, .slice AeN (lastV R).e.length ceN, .slice AcN (lastV R).c.length ccN, .int .i64 (lastV R).p] 62)
              have BV := Lib.hid (Blk.new wc 62 #[.int .i64 M.n, .slice AeN (lastV R).e.length ceN, .slice AcN (lastV R).c.length ccN, .int .i64 (lastV R).p])
              have B1 := Lib.hid bl
              clear bl q0 q1 q2 p0 p1 p2 f0 f1 f2 e0 e1 e2 e3 XC
              generalize wc.alloc (.cells #[.int .i64 M.n, .slice AeN (lastV R).e.length ceN, .slice AcN (lastV R).c.length ccN, .int .i64 (lastV R).p] 62) = w7 at *
              obtain ⟨pv, hpv⟩ : ∃ pv, pv = wc.heap.size := ⟨_, rfl⟩
              rw [← hpv] at BV ⊢
              clear hpv
              have y2 := BV.out.cell 2
              simp only [List.getElem?_toArray, List.getElem?_cons_succ, List.getElem?_cons_zero] at y2
              go_upto_region 18 with (go_at_call 29; refine (AP.out _ B1.out).mono ?_; rintro e w8 ⟨A9, c9, rfl, hes, hb⟩; have E8 := Lib.hid hes; have BV8 := Lib.hid (BV.out.below hb); have B8 := Lib.hid (bel_trans B1.out hb); clear hb hes y2)
              have y0 := BV8.out.cell 0
              have y1 := BV8.out.cell 1
              have BG8 := Lib.hid (BGc.out.below B8.out)
              have q1 := BG8.out.cell 1
              simp only [List.getElem?_toArray, List.getElem?_cons_succ, List.getElem?_cons_zero] at y0 y1 q1
              have SM := Lib.hid (sameE_any E8.out (SE.out _ B8.out) LES.out)
              rw [show decide (es = es) = true from decide_eq_true rfl] at SM
              go_upto_region 20 with (go_at_call 23; refine SM.out.mono ?_; rintro e w9 ⟨rfl, hb⟩; have B9 := Lib.hid (bel_trans B8.out hb); clear hb y0 y1 q1)
              have BGX := Lib.hid (BGc.out.below B9.out)
              have BNX := Lib.hid (BN.out.below B9.out)
              have BWX := Lib.hid (BWc.out.call B9.out)
              have VNX := Lib.hid (VN.out.below B9.out)
              have f0 := BGX.out.frozen 0
              have f1 := BGX.out.frozen 1
              have f2 := BGX.out.frozen 2
              have s0 := BGX.out.cell 0
              have s1 := BGX.out.cell 1
              have s2 := BGX.out.cell 2
              have p0 := BNX.out.cell 0
              have p1 := BNX.out.cell 1
              have p2 := BNX.out.cell 2
              simp only [List.getElem?_toArray, List.getElem?_cons_succ, List.getElem?_cons_zero] at p0 p1 p2 s0 s1 s2
              go_wp2_with fail
              obtain ⟨W', hW', bw', ff', bp'⟩ := put3 BGX.out BWX.out GW.out (.int .i64 R.w) (.int .i64 R.n) (.slice (some ⟨bN, oN, none⟩) qr c7)
              rw [← hW']
              refine ⟨⟨k + 1, by go_num, by omega, Lib.hid ?_, Lib.hid bw'⟩, by simp [intOf]; omega⟩
              rw [STEP.out, ← HK.out]
              refine ⟨some ⟨bN, oN, none⟩, c7, by rw [← QR.out]; exact bp', ⟨_, rfl, by rw [← QR.out]; exact VNX.out.far ff' (fun b hb _ e => hb e)⟩⟩
            · have x0 : (xk == 0) = false := by simp [hxk]
              have BGX := BGc
              have BWX := BWc
              have VNX := VN
              go_wp2_with fail
              obtain ⟨W', hW', bw', ff', bp'⟩ := put3 BGX.out BWX.out GW.out (.int .i64 R.w) (.int .i64 R.n) (.slice (some ⟨bN, oN, none⟩) qr c7)
              rw [← hW']
              refine ⟨⟨k + 1, by go_num, by omega, Lib.hid ?_, Lib.hid bw'⟩, by simp [intOf]; omega⟩
              rw [STEP.out, ← HK.out]
              refine ⟨some ⟨bN, oN, none⟩, c7, by rw [← QR.out]; exact bp', ⟨_, rfl, by rw [← QR.out]; exact VNX.out.far ff' (fun b hb _ e => hb e)⟩⟩
          · have x0 : (r2 == 0) = false := by simp [hr]
            have x1 : (r2 != 0) = true := by simp [hr]
            have eR := ERR.out hr
            subst eR
            have MDc : Hid (Md (fun b => ¬ b = g) wc (.agg #[.int .i64 R.w, .int .i64 R.n, .slice (some ⟨bV, oV, none⟩) q c5]) R) := Lib.hid ⟨_, rfl, VLc.out⟩
            have MNc : Hid (Md (fun b => ¬ b = g) wc (.agg #[.int .i64 R.w, .int .i64 R.n, .slice (some ⟨bN, oN, none⟩) qr c7]) R) := Lib.hid ⟨_, rfl, VN.out⟩
            have SM := Lib.hid (same_any MDc.out MNc.out (by have := LM'.out; omega) (invFew IV.out))
            rw [show decide (R = R) = true from decide_eq_true rfl] at SM
            go_wp2_with (go_at_call 22; refine SM.out.mono ?_; rintro e w9 ⟨rfl, hb⟩; have BGX := Lib.hid (BGc.out.below hb); have BNX := Lib.hid (BN.out.below hb); have BWX := Lib.hid (BWc.out.call hb); have VNX := Lib.hid (VN.out.below hb); clear hb q0 q1 q2 p0 p1 p2 f0 f1 f2; have f0 := BGX.out.frozen 0; have f1 := BGX.out.frozen 1; have f2 := BGX.out.frozen 2; have s0 := BGX.out.cell 0; have s1 := BGX.out.cell 1; have s2 := BGX.out.cell 2; have p0 := BNX.out.cell 0; have p1 := BNX.out.cell 1; have p2 := BNX.out.cell 2; simp only [List.getElem?_toArray, List.getElem?_cons_succ, List.getElem?_cons_zero] at p0 p1 p2 s0 s1 s2)
            obtain ⟨W', hW', bw', ff', bp'⟩ := put3 BGX.out BWX.out GW.out (.int .i64 R.w) (.int .i64 R.n) (.slice (some ⟨bN, oN, none⟩) qr c7)
            rw [← hW']
            refine ⟨⟨k + 1, by go_num, by omega, Lib.hid ?_, Lib.hid bw'⟩, by simp [intOf]; omega⟩
            rw [STEP.out, ← HK.out]
            refine ⟨some ⟨bN, oN, none⟩, c7, by rw [← QR.out]; exact bp', ⟨_, rfl, by rw [← QR.out]; exact VNX.out.far ff' (fun b hb _ e => hb e)⟩⟩
      · have i1 : ¬ (k : Int) < (z : Int) := by omega
        obtain rfl : k = z := by omega
        have tk : l.take k = l := by rw [HZ.out, List.take_length]
        rw [tk] at HM
        clear tk
        obtain ⟨M, hM⟩ : ∃ M, M = runM (newM n) l := ⟨_, rfl⟩
        have IM : Inv M := by rw [hM]; exact runM_inv _ (inv_new n)
        have LM : M.all.length ≤ 31 := by
          have h1 := runM_len l (newM n)
          rw [← hM] at h1
          have h2 : (newM n).all.length = 1 := rfl
          have := HZ.out
          omega
        rw [← hM] at HM
        have INV := Lib.hid IM
        obtain ⟨A5, c5, hblk, hmd⟩ := HM.out
        obtain ⟨m, hm, hlast, hin⟩ := IM.some
        obtain ⟨F, hF⟩ : ∃ F, M.all[0]? = some F := ⟨_, List.getElem?_eq_getElem (by omega)⟩
        have hfin := List.mem_of_getElem? hF
        obtain ⟨q, hq⟩ : ∃ q, q = M.all.length := ⟨_, rfl⟩
        obtain ⟨u5, hu5, hvl5⟩ := hmd
        simp only [Value.agg.injEq, Array.mk.injEq, List.cons.injEq, true_and, and_true] at hu5
        subst hu5
        obtain ⟨bV, oV, cV, _, _, he, _⟩ := hvl5.at_ hlast
        simp only [Value.slice.injEq] at he
        obtain ⟨rfl, -, -⟩ := he
        obtain ⟨vf, wf, hbV, hvf, hwf, d0, d1, d2, d3⟩ := hvl5.atA hF
        obtain ⟨vl, wl, _, hvl, hwl, e0, e1, e2, e3⟩ := hvl5.atA hlast
        obtain ⟨Af, cf, rfl⟩ := hvf.toEs.shape
        obtain ⟨Al, cl, rfl⟩ := hvl.toEs.shape
        obtain ⟨Bf, kf, rfl⟩ := hwf.toCs.shape
        obtain ⟨Bk, kl, rfl⟩ := hwl.toCs.shape
        have EF := Lib.hid hvf.toEs
        have EL := Lib.hid hvl.toEs
        have GV : Hid (F ∈ M.all ∧ lastV M ∈ M.all ∧ Mdl.Good F.e ∧ Mdl.Good (lastV M).e ∧ M.all.length ≤ 1000) := Lib.hid ⟨hfin, hin, (IM.ver _ hfin).2.2.2.1, (IM.ver _ hin).2.2.2.1, by omega⟩
        have MD : Hid (Md (fun b => ¬ b = g) wr (.agg #[.int .i64 M.w, .int .i64 M.n, .slice (some ⟨bV, oV, none⟩) q c5]) M) := Lib.hid ⟨_, rfl, by rw [hq]; exact hvl5⟩
        rw [← hq] at hm LM hblk
        have BG := Lib.hid hblk
        have wq : IntKind.i64.wrap ((q : Int) - 1) = (m : Int) := by rw [show (q : Int) - 1 = (m : Int) by omega]; exact IntWalk.i64_in _ (by omega)
        have jq : (m : Int) < (q : Int) := by omega
        have j0 : (0 : Int) < (q : Int) := by omega
        have q2 := BG.out.cell 2
        simp only [List.getElem?_toArray, List.getElem?_cons_succ, List.getElem?_cons_zero] at q2
        simp only [Nat.zero_mul, Nat.add_zero] at d0 d1 d2 d3
        have d0' := (Blk.lt BG.out)
        have LS : Hid (∀ W, Below wr.heap.size wr W → W.cell? ⟨bV, oV + m * 4, none⟩ = some (.int .i64 (lastV M).b) ∧ W.cell? ⟨bV, oV + m * 4 + 1, none⟩ = some (.slice Al (lastV M).e.length cl) ∧ W.cell? ⟨bV, oV + m * 4 + 2, none⟩ = some (.slice Bk (lastV M).c.length kl) ∧ W.cell? ⟨bV, oV + m * 4 + 3, none⟩ = some (.int .i64 (lastV M).p)) := Lib.hid (fun W hW => ⟨(hW.cell (p := ⟨bV, _, none⟩) hbV).trans e0, (hW.cell (p := ⟨bV, _, none⟩) hbV).trans e1, (hW.cell (p := ⟨bV, _, none⟩) hbV).trans e2, (hW.cell (p := ⟨bV, _, none⟩) hbV).trans e3⟩)
        clear hM IM hblk HM hvl5 hvf hwf hvl hwl hF hlast hin hfin hq LM hm d0' e0 e1 e2 e3
        go_upto_region 24 with (fail)
        have bl := (Below.refl wr.heap.size wr).alloc (Nat.le_refl _) (.cells #[.int .i64 F.b, .slice Af F.e.length cf, .slice Bf F.c.length kf, .int .i64 F.p] 62)
        have BF := Lib.hid (Blk.new wr 62 #[.int .i64 F.b, .slice Af F.e.length cf, .slice Bf F.c.length kf, .int .i64 F.p])
        have B1 := Lib.hid bl
        clear bl q2 d0 d1 d2 d3
        generalize wr.alloc (.cells #[.int .i64 F.b, .slice Af F.e.length cf, .slice Bf F.c.length kf, .int .i64 F.p] 62) = w7 at *
        obtain ⟨pf, hpf⟩ : ∃ pf, pf = wr.heap.size := ⟨_, rfl⟩
        rw [← hpf] at BF ⊢
        clear hpf
        obtain ⟨e0, e1, e2, e3⟩ := LS.out _ B1.out
        have BG1 := Lib.hid (BG.out.below B1.out)
        have q2 := BG1.out.cell 2
        simp only [List.getElem?_toArray, List.getElem?_cons_succ, List.getElem?_cons_zero] at q2
        go_upto_region 25 with (fail)
        have bl := (Below.refl w7.heap.size w7).alloc (Nat.le_refl _) (.cells #[.int .i64 (lastV M).b, .slice Al (lastV M).e.length cl, .slice Bk (lastV M).c.length kl, .int .i64 (lastV M).p] 62)
        have BL := Lib.hid (Blk.new w7 62 #[.int .i64 (lastV M).b, .slice Al (lastV M).e.length cl, .slice Bk (lastV M).c.length kl, .int .i64 (lastV M).p])
        have BF2 := Lib.hid (BF.out.below bl)
        have B2 := Lib.hid (bel_trans B1.out bl)
        clear bl q2 e0 e1 e2 e3
        generalize w7.alloc (.cells #[.int .i64 (lastV M).b, .slice Al (lastV M).e.length cl, .slice Bk (lastV M).c.length kl, .int .i64 (lastV M).p] 62) = w8 at *
        obtain ⟨pl, hpl⟩ : ∃ pl, pl = w7.heap.size := ⟨_, rfl⟩
        rw [← hpl] at BL ⊢
        clear hpl
        have CELL : Hid (∀ W, Below w8.heap.size w8 W → W.cell? ⟨g, 0, none⟩ = some (.int .i64 M.w) ∧ W.cell? ⟨g, 1, none⟩ = some (.int .i64 M.n) ∧ W.cell? ⟨g, 2, none⟩ = some (.slice (some ⟨bV, oV, none⟩) q c5) ∧ W.cell? ⟨pf, 0, none⟩ = some (.int .i64 F.b) ∧ W.cell? ⟨pf, 1, none⟩ = some (.slice Af F.e.length cf) ∧ W.cell? ⟨pl, 0, none⟩ = some (.int .i64 (lastV M).b) ∧ W.cell? ⟨pl, 1, none⟩ = some (.slice Al (lastV M).e.length cl)) := Lib.hid (fun W hW => by
          have k1 := (BG.out.below B2.out).below hW
          have k2 := BF2.out.below hW
          have k3 := BL.out.below hW
          exact ⟨by simpa using k1.cell 0, by simpa using k1.cell 1, by simpa using k1.cell 2, by simpa using k2.cell 0, by simpa using k2.cell 1, by simpa using k3.cell 0, by simpa using k3.cell 1⟩)
        have QE := Lib.hid (fun W (hW : Below wr.heap.size wr W) => And.intro (EF.out.below hW) (EL.out.below hW))
        obtain ⟨c0, c1, c2, x0, x1, z0, z1⟩ := CELL.out _ (Below.refl _ _)
        go_upto_region 26 with (go_at_call 20; refine (between_inv (V := F) (U := lastV M) (MD.out.below B2.out) INV.out GV.out.2.2.2.2 GV.out.1 GV.out.2.1).mono ?_; rintro e w9 ⟨A8, c8, rfl, hcs, hb⟩; have C9 := Lib.hid hcs; have B9 := Lib.hid (bel_trans B2.out hb); clear hcs c0 c1 c2 x0 x1 z0 z1; obtain ⟨c0, c1, c2, x0, x1, z0, z1⟩ := CELL.out _ hb; have HB9 := Lib.hid hb; clear hb)
        go_upto_region 27 with (go_at_call 29; refine (apply_inv GV.out.2.2.1 GV.out.2.2.2.1 (QE.out _ B9.out).1 C9.out).mono ?_; rintro e w10 ⟨A9, c9, rfl, hes, hb⟩; have E10 := Lib.hid hes; have B10 := Lib.hid (bel_trans B9.out hb); clear hes c0 c1 c2 x0 x1 z0 z1; obtain ⟨c0, c1, c2, x0, x1, z0, z1⟩ := CELL.out _ (bel_trans HB9.out hb); clear hb)
        have SM := Lib.hid (sameE_any E10.out (QE.out _ B10.out).2 (by have := GV.out.2.2.2.1.few; omega))
        rw [show decide ((lastV M).e = (lastV M).e) = true from decide_eq_true rfl] at SM
        go_wp2_with (go_at_call 23; refine SM.out.mono ?_; rintro e w11 ⟨rfl, hb⟩; have B11 := Lib.hid (bel_trans B10.out hb); clear hb)
        go_ret
        exact ⟨rfl, (W4.out.call B11.out).1⟩
end Go.Proofs.Ytdahhnefcageeaa

/-
  ModelRuns: the walk (written by makers/mdlruns.py).
-/
import Derived.Test.YtdahhnefcageeaaMdlWindow
import Derived.Test.YtdahhnefcageeaaMdlRefT
import Derived.Test.YtdahhnefcageeaaGaMdR4
import Derived.Deep.RegionHeld3
import Derived.Deep.CutRange
namespace Go.Proofs.Ytdahhnefcageeaa
open Go.RowKit Go.Proofs.Mdl
set_option linter.unusedVariables false
set_option linter.unusedSimpArgs false
/-- Two boxes, one of each kind, that hold one model. -/
def Ht (w : World) (g r : Nat) (M : Mod) : Prop := ∃ A c A' c', Blk w g 24 #[.int .i64 M.w, .int .i64 M.n, .slice A M.all.length c] ∧ Blk w r 37 #[.int .i64 M.w, .int .i64 M.n, .slice A' M.all.length c'] ∧ Vl (fun b => ¬ b = g ∧ ¬ b = r) w (.slice A M.all.length c) M.all ∧ Vl (fun b => ¬ b = g ∧ ¬ b = r) w (.slice A' M.all.length c') M.all
theorem rsame_true {N N' : Nat → Prop} {w : World} {va vb : Value} {M : Mod} (h1 : Md N w va M) (h2 : Md N' w vb M) (I : Inv M) (hl : M.all.length ≤ 1000) :
    Calls Try.prog 15 #[va, vb] w fun e w' => e = .returned (.bool true) ∧ Below w.heap.size w w' := by
  have h := rsame_any h1 h2 hl (invFew I)
  rw [show decide (M = M) = true from decide_eq_true rfl] at h
  exact h
theorem valid_true {N : Nat → Prop} {w : World} {v : Value} {M : Mod} (h : Md N w v M) (I : Inv M) (hl : M.all.length ≤ 1000) :
    Calls Try.prog 17 #[v] w fun e w' => e = .returned (.bool true) ∧ Below w.heap.size w w' := by
  have h := valid_any h hl (fun V hV => (invFew I V hV).1)
  rw [I.valid] at h
  exact h
set_option maxRecDepth 100000 in
set_option maxHeartbeats 4000000 in
theorem runs_walk (w : World) (n : Int) (A : Option Addr) (c : Nat) (l : List Mdl.Act) (h : Lk w A l) :
    Calls Try.prog 4 #[.int .i64 n, .slice A l.length c] w fun e w' => e = .returned (.bool true) ∧ Below w.heap.size w w' := by
  have WK := Lib.hid (fun W => works_any W)
  have FW := Lib.hid (fun W (hW : Below w.heap.size w W) => few_any (c := c) (h.below hW))
  have NW := Lib.hid (fun W => new_any n W)
  have RW0 := Lib.hid (fun W => rnew_any n W)
  have HL := Lib.hid h
  obtain ⟨z, hz⟩ : ∃ z, z = l.length := ⟨_, rfl⟩
  have HZ := Lib.hid hz
  rw [← hz] at FW ⊢
  have W0 := Lib.hid (Bl.start w)
  clear h hz
  go_enter Try.func4, Try.ntmps4
  go_upto_region 5 with (first
    | (go_at_call 9; refine (WK.out _).mono ?_; rintro e w1 ⟨rfl, hb⟩; have W1 := Lib.hid (W0.out.call hb); clear hb)
    | (go_at_call 11; refine (FW.out _ W1.out.1).mono ?_; rintro e w2 ⟨⟨bf, rfl, hbf, rfl⟩⟩; have HBF := Lib.hid hbf; clear hbf))
  cases bf with
  | false =>
    go_wp2_with fail
    go_ret
    exact ⟨rfl, W1.out.1⟩
  | true =>
    obtain ⟨fl, fc⟩ := HBF.out rfl
    have FC := Lib.hid fc
    have zl : z ≤ 30 := by have := HZ.out; omega
    clear fl fc HBF FW WK
    go_upto_region 9 with (first
      | (go_at_call 25; refine (NW.out _).mono ?_; rintro e w3 ⟨v3, rfl, hmd, hb⟩; obtain ⟨u3, hv3, hvl⟩ := hmd; obtain ⟨A3, c3, hs3⟩ := hvl.shape; subst hs3; subst hv3; have VL3 := Lib.hid hvl; have W3 := Lib.hid (W1.out.call hb); clear hb hvl)
      | (go_at_call 26; refine (RW0.out _).mono ?_; rintro e w5 ⟨v5, rfl, hmd, hb⟩; obtain ⟨u5, hv5, hvl⟩ := hmd; obtain ⟨A4, c4, hs5⟩ := hvl.shape; subst hs5; subst hv5; have VL5 := Lib.hid hvl; have HB5 := Lib.hid hb; clear hb hvl))
    have bl3 : Below w3.heap.size w3 (w3.alloc (.cells #[.int .i64 (newM n).w, .int .i64 (newM n).n, .slice A3 (newM n).all.length c3] 24)) := (Below.refl _ _).alloc (Nat.le_refl _) _
    have BG3 := Lib.hid ((Blk.new w3 24 #[.int .i64 (newM n).w, .int .i64 (newM n).n, .slice A3 (newM n).all.length c3]).below HB5.out)
    have W35 := Lib.hid ((W3.out.call bl3).call HB5.out)
    have V35 := Lib.hid (((VL3.out.mono (N' := fun b => b < w3.heap.size) (fun b _ h => h)).below bl3).below HB5.out)
    have SZ3 : Hid (w3.heap.size < w5.heap.size) := Lib.hid BG3.out.lt
    have bl5 : Below w5.heap.size w5 (w5.alloc (.cells #[.int .i64 (newM n).w, .int .i64 (newM n).n, .slice A4 (newM n).all.length c4] 37)) := (Below.refl _ _).alloc (Nat.le_refl _) _
    have SA : (w3.alloc (.cells #[.int .i64 (newM n).w, .int .i64 (newM n).n, .slice A3 (newM n).all.length c3] 24)).heap.size = w3.heap.size + 1 := by simp
    have HM4 : Hid (Ht (w5.alloc (.cells #[.int .i64 (newM n).w, .int .i64 (newM n).n, .slice A4 (newM n).all.length c4] 37)) w3.heap.size w5.heap.size (newM n)) := Lib.hid ⟨A3, c3, A4, c4, BG3.out.below bl5, Blk.new w5 _ _, (V35.out.mono (fun b hb _ => by have h9 : b < w3.heap.size := hb; have := SZ3.out; exact ⟨by omega, by omega⟩)).below bl5, (VL5.out.mono (fun b hb hlt => by have h9 : _ ≤ b := hb; rw [SA] at h9; exact ⟨by omega, by omega⟩)).below bl5⟩
    have W4 := Lib.hid (W35.out.call bl5)
    have GW := Lib.hid W3.out.2
    have RW := Lib.hid W35.out.2
    have GR : Hid (¬ w3.heap.size = w5.heap.size) := Lib.hid (by have := SZ3.out; omega)
    clear bl3 bl5 SA BG3 V35 SZ3 W35 HB5 VL5 VL3 W3
    generalize w5.alloc (.cells #[.int .i64 (newM n).w, .int .i64 (newM n).n, .slice A4 (newM n).all.length c4] 37) = w4 at *
    generalize w3.heap.size = g at *
    generalize w5.heap.size = r at *
    go_wp2_with fail
    go_loopw [9, 10, 11, 12, 13, 14, 15, 16] (fun vi _ _ _ _ _ _ _ wr => ∃ k : Nat, vi = .int .i64 (k : Int) ∧ k ≤ z ∧ Hid (Ht wr g r (runM (newM n) (l.take k))) ∧ Hid (Bl w.heap.size w wr)) (fun vi _ _ _ _ _ _ _ _ => z - (intOf vi).toNat)
    case atStart => exact ⟨0, rfl, Nat.zero_le _, HM4, W4⟩
    case round =>
      clear HM4 W4
      obtain ⟨k, rfl, hk, HM, W4⟩ := hrel
      by_cases hlt : k < z
      · obtain ⟨x, hx⟩ : ∃ x, l[k]? = some x := ⟨_, List.getElem?_eq_getElem (by rw [← HZ.out]; exact hlt)⟩
        obtain ⟨b, o, rfl, hbl, vc, d0, d1, d2, hcs⟩ := (HL.out.below W4.out.1).at_ k x hx
        obtain ⟨A5, c5, A8, c8, hg1, hr1, hv1, hv2⟩ := HM.out
        have STEP := Lib.hid (runM_step (newM n) hx)
        obtain ⟨M, hM⟩ : ∃ M, M = runM (newM n) (l.take k) := ⟨_, rfl⟩
        have IM : Inv M := by rw [hM]; exact runM_inv _ (inv_new n)
        have LM : M.all.length ≤ 31 := by
          have h1 := runM_len (l.take k) (newM n)
          rw [← hM] at h1
          have h2 : (newM n).all.length = 1 := rfl
          rw [List.length_take] at h1
          omega
        rw [← hM] at hg1 hr1 hv1 hv2 STEP
        clear hM HM
        have CX := FC.out x (List.mem_of_getElem? hx)
        obtain ⟨xk, xc, xn⟩ := x
        simp only at d0 d1 d2 hcs CX
        have IR : Hid (Inv (doM M ⟨xk, xc, xn⟩).1) := Lib.hid (IM.act _)
        have LR : Hid ((doM M ⟨xk, xc, xn⟩).1.all.length ≤ 32) := Lib.hid (by have := act_len M ⟨xk, xc, xn⟩; omega)
        have DO := Lib.hid (fun W (hW : Below wr.heap.size wr W) => do_any (N := fun b => (¬ b = g ∧ ¬ b = r) ∧ b < wr.heap.size) (a := ⟨xk, xc, xn⟩) (show Md (fun b => (¬ b = g ∧ ¬ b = r) ∧ b < wr.heap.size) W (.agg #[.int .i64 M.w, .int .i64 M.n, .slice A5 M.all.length c5]) M from ⟨_, rfl, (hv1.mono (fun b h1 h2 => ⟨h1, h2⟩)).below hW⟩) (hcs.below hW) (by omega) (invFew IM) (by simp only; omega))
        have TD := Lib.hid (fun W (hW : Below wr.heap.size wr W) => told_any (N := fun b => (¬ b = g ∧ ¬ b = r) ∧ b < wr.heap.size) (a := ⟨xk, xc, xn⟩) (show Md (fun b => (¬ b = g ∧ ¬ b = r) ∧ b < wr.heap.size) W (.agg #[.int .i64 M.w, .int .i64 M.n, .slice A8 M.all.length c8]) M from ⟨_, rfl, (hv2.mono (fun b h1 h2 => ⟨h1, h2⟩)).below hW⟩) (hcs.below hW) (by omega) (invFew IM) (by simp only; omega))
        obtain ⟨A6, c6, rfl⟩ := hcs.shape
        have XA : Hid (∀ W, Below wr.heap.size wr W → W.cell? ⟨b, o + k * 3, none⟩ = some (.int .i64 xk) ∧ W.cell? ⟨b, o + k * 3 + 1, none⟩ = some (.slice A6 xc.length c6) ∧ W.cell? ⟨b, o + k * 3 + 2, none⟩ = some (.int .i64 xn)) := Lib.hid (fun W hW => ⟨(hW.cell (p := ⟨b, _, none⟩) hbl).trans d0, (hW.cell (p := ⟨b, _, none⟩) hbl).trans d1, (hW.cell (p := ⟨b, _, none⟩) hbl).trans d2⟩)
        have i1 : (k : Int) < (z : Int) := by omega
        have wk : IntKind.i64.wrap ((k : Int) + 1) = (k : Int) + 1 := IntWalk.i64_in _ (by omega)
        obtain ⟨q, hq⟩ : ∃ q, q = M.all.length := ⟨_, rfl⟩
        rw [← hq] at DO TD hg1 hr1
        have BG := Lib.hid hg1
        have BR := Lib.hid hr1
        have LT : Hid (g < wr.heap.size ∧ r < wr.heap.size) := Lib.hid ⟨BG.out.lt, BR.out.lt⟩
        obtain ⟨K, hK⟩ : ∃ K, K = doM M ⟨xk, xc, xn⟩ := ⟨_, rfl⟩
        have HK := Lib.hid hK
        rw [← hK] at DO TD IR LR
        clear hx hcs IM LM CX hv1 hv2 hg1 hr1 d0 d1 d2 hbl hK hq
        obtain ⟨R, r1, r2⟩ := K
        simp only at DO TD IR LR
        have BWW := Lib.hid (Bl.start wr)
        go_upto_region 12 with (fail)
        have ST : Hid (∀ W, Below wr.heap.size wr W → W.cell? ⟨g, 0, none⟩ = some (.int .i64 M.w) ∧ W.cell? ⟨g, 1, none⟩ = some (.int .i64 M.n) ∧ W.cell? ⟨g, 2, none⟩ = some (.slice A5 q c5) ∧ W.cell? ⟨b, o + k * 3, none⟩ = some (.int .i64 xk) ∧ W.cell? ⟨b, o + k * 3 + 1, none⟩ = some (.slice A6 xc.length c6) ∧ W.cell? ⟨b, o + k * 3 + 2, none⟩ = some (.int .i64 xn)) := Lib.hid (fun W hW => by
          have k1 := BG.out.below hW
          obtain ⟨t0, t1, t2⟩ := XA.out _ (bel_trans' BWW.out.1 hW)
          exact ⟨by simpa using k1.cell 0, by simpa using k1.cell 1, by simpa using k1.cell 2, t0, t1, t2⟩)
        go_cut [10, 11, 12] from 35 to 44 (fun v10 v11 v12 wx => ∃ p A7 c7, v10 = .pointer (some ⟨p, 0, none⟩) ∧ v11 = .int .i64 r1 ∧ v12 = .int .i64 r2 ∧ Hid (Blk wx p 24 #[.int .i64 R.w, .int .i64 R.n, .slice A7 R.all.length c7]) ∧ Hid (Vl (fun b => ¬ b = g ∧ ¬ b = r) wx (.slice A7 R.all.length c7) R.all) ∧ Hid (Bl wr.heap.size wr wx) ∧ Hid (wr.heap.size ≤ p))
        case first =>
          have E0 : Hid (Below wr.heap.size wr wr.drew) := Lib.hid ((Bl.start wr).drewN 1).1
          have E1 : Hid (Below wr.heap.size wr (wr.alloc (.cells #[.int .i64 0, .int .i64 0, .slice none 0 0] 24)).drew) := Lib.hid (((Bl.start wr).alloc _).drewN 1).1
          have ZB : Hid (Blk (wr.alloc (.cells #[.int .i64 0, .int .i64 0, .slice none 0 0] 24)).drew wr.heap.size 24 #[.int .i64 0, .int .i64 0, .slice none 0 0]) := Lib.hid (Blk.new wr _ _)
          go_region_held3 (fun W => W.cell? ⟨g, 0, none⟩ = some (.int .i64 M.w) ∧ W.cell? ⟨g, 1, none⟩ = some (.int .i64 M.n) ∧ W.cell? ⟨g, 2, none⟩ = some (.slice A5 q c5) ∧ W.cell? ⟨b, o + k * 3, none⟩ = some (.int .i64 xk) ∧ W.cell? ⟨b, o + k * 3 + 1, none⟩ = some (.slice A6 xc.length c6) ∧ W.cell? ⟨b, o + k * 3 + 2, none⟩ = some (.int .i64 xn))
            (first | (with_reducible exact ST.out _ E0.out) | (with_reducible exact ST.out _ E1.out) | (refine ST.out _ (show Bl wr.heap.size wr _ from ?_).1; repeat' (first | (with_reducible exact BL6.out) | (with_reducible refine Bl.alloc ?_ _) | (with_reducible refine Bl.setCell ?_ ?_ _) | (with_reducible exact SLE.out) | (exact Nat.le_refl _))))
            (first
              | (go_at_call 12; (with_reducible refine (DO.out _ E0.out).mono ?_); rintro e w6 ⟨v6, rfl, hmd, hb⟩; obtain ⟨u6, hv6, hvl⟩ := hmd; obtain ⟨A7, c7, hs6⟩ := hvl.shape; subst hs6; subst hv6; have VL6 := Lib.hid hvl; have BL6 := Lib.hid ((Bl.start wr).drew.call hb); have SLE : Hid (wr.heap.size ≤ w6.heap.size) := Lib.hid BL6.out.2; clear hvl hb)
              | (go_at_call 12; (with_reducible refine (DO.out _ E1.out).mono ?_); rintro e w6 ⟨v6, rfl, hmd, hb⟩; obtain ⟨u6, hv6, hvl⟩ := hmd; obtain ⟨A7, c7, hs6⟩ := hvl.shape; subst hs6; subst hv6; have VL6 := Lib.hid hvl; have BL6 := Lib.hid (((Bl.start wr).alloc (.cells #[.int .i64 0, .int .i64 0, .slice none 0 0] 24)).drew.call hb); have ZB6 := Lib.hid (ZB.out.below hb); have k0 := ZB6.out.cell 0; have k1 := ZB6.out.cell 1; have k2 := ZB6.out.cell 2; simp only [List.getElem?_toArray, List.getElem?_cons_succ, List.getElem?_cons_zero] at k0 k1 k2; have f0 := ZB6.out.frozen 0; have f1 := ZB6.out.frozen 1; have f2 := ZB6.out.frozen 2; clear hvl hb))
          · go_wp2_with fail
            go_meet
            exact ⟨w6.heap.size, A7, c7, rfl, rfl, rfl, Lib.hid (Blk.new w6 _ _), Lib.hid ((VL6.out.mono (fun b hb _ => by have h9 : ((¬ b = g ∧ ¬ b = r) ∧ b < wr.heap.size) ∨ wr.heap.size ≤ b := hb; have := LT.out; rcases h9 with h9 | h9; exact h9.1; exact ⟨by omega, by omega⟩)).below ((Below.refl _ _).alloc (Nat.le_refl _) _)), Lib.hid (BL6.out.alloc _), SLE⟩
          · go_wp2_with fail
            go_meet
            obtain ⟨W4', hW4, bl4, ff4, bk4⟩ := put3 ZB6.out BL6.out (Nat.le_refl _) (.int .i64 R.w) (.int .i64 R.n) (.slice A7 R.all.length c7)
            rw [← hW4]
            have sz : (wr.alloc (.cells #[.int .i64 0, .int .i64 0, .slice none 0 0] 24)).drew.heap.size = wr.heap.size + 1 := by show (World.alloc _ _).heap.size = _; simp
            exact ⟨wr.heap.size, A7, c7, rfl, rfl, rfl, Lib.hid bk4, Lib.hid ((VL6.out.far ff4 (fun b hb _ e => by have e1 : b = wr.heap.size := e; have h9 : ((¬ b = g ∧ ¬ b = r) ∧ b < wr.heap.size) ∨ _ ≤ b := hb; rw [sz] at h9; omega)).mono (fun b hb _ => by have h9 : ((¬ b = g ∧ ¬ b = r) ∧ b < wr.heap.size) ∨ _ ≤ b := hb; rw [sz] at h9; have := LT.out; rcases h9 with h9 | h9; exact h9.1; exact ⟨by omega, by omega⟩)), Lib.hid bl4, Lib.hid (Nat.le_refl _)⟩
        case rest =>
          obtain ⟨p1, A11, c11, e10, e11, e12, BPp1, VPp1, BX, SGE⟩ := hcut
          subst e10
          subst e11
          subst e12
          rename World => wa
          have BR1 := Lib.hid (BR.out.below BX.out.1)
          have BG1 := Lib.hid (BG.out.below BX.out.1)
          have BW1 := Lib.hid (W4.out.call BX.out.1)
          have LT1 : Hid (g < wa.heap.size ∧ r < wa.heap.size) := Lib.hid ⟨BG1.out.lt, BR1.out.lt⟩
          have BXA := BX
          have SG1 := SGE
          clear BG ST BWW
          replace LT := LT1
          replace BR := BR1
          replace BG := BG1
          have BWW := BXA
          have TD2 : Hid (∀ W, Below wa.heap.size wa W → Calls Try.prog 13 #[.agg #[.int .i64 M.w, .int .i64 M.n, .slice A8 q c8], .agg #[.int .i64 xk, .slice A6 xc.length c6, .int .i64 xn]] W fun e w' => ∃ v', e = .returned (.tuple #[v', .int .i64 r1, .int .i64 r2]) ∧ Md (fun b => ((¬ b = g ∧ ¬ b = r) ∧ b < wa.heap.size) ∨ W.heap.size ≤ b) w' v' R ∧ Below W.heap.size W w') := Lib.hid (fun W hW => (TD.out W (bel_trans' BXA.out.1 hW)).mono (fun e w' h => by
            obtain ⟨v', h1, h2, h3⟩ := h
            exact ⟨v', h1, h2.mono (fun b hb _ => hb.imp (fun x => ⟨x.1, Nat.lt_of_lt_of_le x.2 BXA.out.2⟩) id), h3⟩))
          clear BX SGE
          go_upto_region 13 with (fail)
          have ST : Hid (∀ W, Below wa.heap.size wa W → W.cell? ⟨r, 0, none⟩ = some (.int .i64 M.w) ∧ W.cell? ⟨r, 1, none⟩ = some (.int .i64 M.n) ∧ W.cell? ⟨r, 2, none⟩ = some (.slice A8 q c8) ∧ W.cell? ⟨b, o + k * 3, none⟩ = some (.int .i64 xk) ∧ W.cell? ⟨b, o + k * 3 + 1, none⟩ = some (.slice A6 xc.length c6) ∧ W.cell? ⟨b, o + k * 3 + 2, none⟩ = some (.int .i64 xn)) := Lib.hid (fun W hW => by
            have k1 := BR.out.below hW
            obtain ⟨t0, t1, t2⟩ := XA.out _ (bel_trans' BWW.out.1 hW)
            exact ⟨by simpa using k1.cell 0, by simpa using k1.cell 1, by simpa using k1.cell 2, t0, t1, t2⟩)
          go_cut [13, 14, 15] from 45 to 54 (fun v10 v11 v12 wx => ∃ p A7 c7, v10 = .pointer (some ⟨p, 0, none⟩) ∧ v11 = .int .i64 r1 ∧ v12 = .int .i64 r2 ∧ Hid (Blk wx p 37 #[.int .i64 R.w, .int .i64 R.n, .slice A7 R.all.length c7]) ∧ Hid (Vl (fun b => ¬ b = g ∧ ¬ b = r) wx (.slice A7 R.all.length c7) R.all) ∧ Hid (Bl wa.heap.size wa wx) ∧ Hid (wa.heap.size ≤ p))
          case first =>
            have E0 : Hid (Below wa.heap.size wa wa.drew) := Lib.hid ((Bl.start wa).drewN 1).1
            have E1 : Hid (Below wa.heap.size wa (wa.alloc (.cells #[.int .i64 0, .int .i64 0, .slice none 0 0] 37)).drew) := Lib.hid (((Bl.start wa).alloc _).drewN 1).1
            have ZB : Hid (Blk (wa.alloc (.cells #[.int .i64 0, .int .i64 0, .slice none 0 0] 37)).drew wa.heap.size 37 #[.int .i64 0, .int .i64 0, .slice none 0 0]) := Lib.hid (Blk.new wa _ _)
            go_region_held3 (fun W => W.cell? ⟨r, 0, none⟩ = some (.int .i64 M.w) ∧ W.cell? ⟨r, 1, none⟩ = some (.int .i64 M.n) ∧ W.cell? ⟨r, 2, none⟩ = some (.slice A8 q c8) ∧ W.cell? ⟨b, o + k * 3, none⟩ = some (.int .i64 xk) ∧ W.cell? ⟨b, o + k * 3 + 1, none⟩ = some (.slice A6 xc.length c6) ∧ W.cell? ⟨b, o + k * 3 + 2, none⟩ = some (.int .i64 xn))
              (first | (with_reducible exact ST.out _ E0.out) | (with_reducible exact ST.out _ E1.out) | (refine ST.out _ (show Bl wa.heap.size wa _ from ?_).1; repeat' (first | (with_reducible exact BL6.out) | (with_reducible refine Bl.alloc ?_ _) | (with_reducible refine Bl.setCell ?_ ?_ _) | (with_reducible exact SLE.out) | (exact Nat.le_refl _))))
              (first
                | (go_at_call 13; (with_reducible refine (TD2.out _ E0.out).mono ?_); rintro e w6 ⟨v6, rfl, hmd, hb⟩; obtain ⟨u6, hv6, hvl⟩ := hmd; obtain ⟨A7, c7, hs6⟩ := hvl.shape; subst hs6; subst hv6; have VL6 := Lib.hid hvl; have BL6 := Lib.hid ((Bl.start wa).drew.call hb); have SLE : Hid (wa.heap.size ≤ w6.heap.size) := Lib.hid BL6.out.2; clear hvl hb)
                | (go_at_call 13; (with_reducible refine (TD2.out _ E1.out).mono ?_); rintro e w6 ⟨v6, rfl, hmd, hb⟩; obtain ⟨u6, hv6, hvl⟩ := hmd; obtain ⟨A7, c7, hs6⟩ := hvl.shape; subst hs6; subst hv6; have VL6 := Lib.hid hvl; have BL6 := Lib.hid (((Bl.start wa).alloc (.cells #[.int .i64 0, .int .i64 0, .slice none 0 0] 37)).drew.call hb); have ZB6 := Lib.hid (ZB.out.below hb); have k0 := ZB6.out.cell 0; have k1 := ZB6.out.cell 1; have k2 := ZB6.out.cell 2; simp only [List.getElem?_toArray, List.getElem?_cons_succ, List.getElem?_cons_zero] at k0 k1 k2; have f0 := ZB6.out.frozen 0; have f1 := ZB6.out.frozen 1; have f2 := ZB6.out.frozen 2; clear hvl hb))
            · go_wp2_with fail
              go_meet
              exact ⟨w6.heap.size, A7, c7, rfl, rfl, rfl, Lib.hid (Blk.new w6 _ _), Lib.hid ((VL6.out.mono (fun b hb _ => by have h9 : ((¬ b = g ∧ ¬ b = r) ∧ b < wa.heap.size) ∨ wa.heap.size ≤ b := hb; have := LT.out; rcases h9 with h9 | h9; exact h9.1; exact ⟨by omega, by omega⟩)).below ((Below.refl _ _).alloc (Nat.le_refl _) _)), Lib.hid (BL6.out.alloc _), SLE⟩
            · go_wp2_with fail
              go_meet
              obtain ⟨W4', hW4, bl4, ff4, bk4⟩ := put3 ZB6.out BL6.out (Nat.le_refl _) (.int .i64 R.w) (.int .i64 R.n) (.slice A7 R.all.length c7)
              rw [← hW4]
              have sz : (wa.alloc (.cells #[.int .i64 0, .int .i64 0, .slice none 0 0] 37)).drew.heap.size = wa.heap.size + 1 := by show (World.alloc _ _).heap.size = _; simp
              exact ⟨wa.heap.size, A7, c7, rfl, rfl, rfl, Lib.hid bk4, Lib.hid ((VL6.out.far ff4 (fun b hb _ e => by have e1 : b = wa.heap.size := e; have h9 : ((¬ b = g ∧ ¬ b = r) ∧ b < wa.heap.size) ∨ _ ≤ b := hb; rw [sz] at h9; omega)).mono (fun b hb _ => by have h9 : ((¬ b = g ∧ ¬ b = r) ∧ b < wa.heap.size) ∨ _ ≤ b := hb; rw [sz] at h9; have := LT.out; rcases h9 with h9 | h9; exact h9.1; exact ⟨by omega, by omega⟩)), Lib.hid bl4, Lib.hid (Nat.le_refl _)⟩
          case rest =>
            obtain ⟨p2, A12, c12, e10, e11, e12, BPp2, VPp2, BX, SGE⟩ := hcut
            subst e10
            subst e11
            subst e12
            rename World => wb
            have BP1b := Lib.hid (BPp1.out.below BX.out.1)
            have VP1b := Lib.hid (VPp1.out.below BX.out.1)
            have BGb := Lib.hid (BG.out.below BX.out.1)
            have BRb := Lib.hid (BR.out.below BX.out.1)
            have BWb := Lib.hid (BW1.out.call BX.out.1)
            clear BG BR BPp1 VPp1 ST LT1 LT DO TD TD2
            have OFC := Lib.hid (fun W (hW : Below wb.heap.size wb W) => of_any (show Md (fun b => ¬ b = g ∧ ¬ b = r) W (.agg #[.int .i64 R.w, .int .i64 R.n, .slice A11 R.all.length c11]) R from ⟨_, rfl, VP1b.out.below hW⟩) (by have := LR.out; omega))
            have SMC := Lib.hid (fun W (hW : Below wb.heap.size wb W) (N : Nat → Prop) v (hm : Md N W v R) => rsame_true hm (show Md (fun b => ¬ b = g ∧ ¬ b = r) W (.agg #[.int .i64 R.w, .int .i64 R.n, .slice A12 R.all.length c12]) R from ⟨_, rfl, VPp2.out.below hW⟩) IR.out (by have := LR.out; omega))
            have VDC := Lib.hid (fun W (hW : Below wb.heap.size wb W) => valid_true (show Md (fun b => ¬ b = g ∧ ¬ b = r) W (.agg #[.int .i64 R.w, .int .i64 R.n, .slice A11 R.all.length c11]) R from ⟨_, rfl, VP1b.out.below hW⟩) IR.out (by have := LR.out; omega))
            have ST : Hid (∀ W, Below wb.heap.size wb W → W.cell? ⟨p1, 0, none⟩ = some (.int .i64 R.w) ∧ W.cell? ⟨p1, 1, none⟩ = some (.int .i64 R.n) ∧ W.cell? ⟨p1, 2, none⟩ = some (.slice A11 R.all.length c11) ∧ W.cell? ⟨p2, 0, none⟩ = some (.int .i64 R.w) ∧ W.cell? ⟨p2, 1, none⟩ = some (.int .i64 R.n) ∧ W.cell? ⟨p2, 2, none⟩ = some (.slice A12 R.all.length c12)) := Lib.hid (fun W hW => by
              have k1 := BP1b.out.below hW
              have k2 := BPp2.out.below hW
              exact ⟨by simpa using k1.cell 0, by simpa using k1.cell 1, by simpa using k1.cell 2, by simpa using k2.cell 0, by simpa using k2.cell 1, by simpa using k2.cell 2⟩)
            have E0 : Hid (Below wb.heap.size wb wb.drew) := Lib.hid ((Bl.start wb).drewN 1).1
            go_upto_region 14 with (fail)
            go_region_held3 (fun W => W.cell? ⟨p1, 0, none⟩ = some (.int .i64 R.w) ∧ W.cell? ⟨p1, 1, none⟩ = some (.int .i64 R.n) ∧ W.cell? ⟨p1, 2, none⟩ = some (.slice A11 R.all.length c11) ∧ W.cell? ⟨p2, 0, none⟩ = some (.int .i64 R.w) ∧ W.cell? ⟨p2, 1, none⟩ = some (.int .i64 R.n) ∧ W.cell? ⟨p2, 2, none⟩ = some (.slice A12 R.all.length c12))
              (first | (with_reducible exact ST.out _ E0.out) | (with_reducible exact ST.out _ E1.out) | (with_reducible exact ST.out _ E2.out))
              (first
                | (go_at_call 14; (with_reducible refine (OFC.out _ E0.out).mono ?_); rintro e w8 ⟨v8, rfl, hmd, hb⟩; obtain ⟨u8, hv8, hvl⟩ := hmd; obtain ⟨A13, c13, hs8⟩ := hvl.shape; subst hs8; subst hv8; have M8 := Lib.hid (show Md _ w8 (.agg #[.int .i64 R.w, .int .i64 R.n, .slice A13 R.all.length c13]) R from ⟨_, rfl, hvl⟩); have E1 := Lib.hid (bel_trans' E0.out hb); clear hvl hb)
                | (go_at_call 15; (with_reducible refine (SMC.out _ E1.out _ _ M8.out).mono ?_); rintro e w9 ⟨rfl, hb⟩; have E2 := Lib.hid (bel_trans' E1.out hb); clear hb))
            obtain ⟨x0, x1, x2, y0, y1, y2⟩ := ST.out _ E2.out
            go_upto_region 17 with (go_at_call 17; refine (VDC.out _ E2.out).mono ?_; rintro e w10 ⟨rfl, hb⟩; have E3 := Lib.hid (bel_trans' E2.out hb); clear hb x0 x1 x2 y0 y1 y2; obtain ⟨x0, x1, x2, y0, y1, y2⟩ := ST.out _ E3.out)
            have BGc := Lib.hid (BGb.out.below E3.out)
            have BRc := Lib.hid (BRb.out.below E3.out)
            have BWc := Lib.hid (BWb.out.call E3.out)
            have V1c := Lib.hid (VP1b.out.below E3.out)
            have V2c := Lib.hid (VPp2.out.below E3.out)
            have P1c := Lib.hid (BP1b.out.below E3.out)
            have P2c := Lib.hid (BPp2.out.below E3.out)
            have f0 := BGc.out.frozen 0
            have f1 := BGc.out.frozen 1
            have f2 := BGc.out.frozen 2
            have s0 := BGc.out.cell 0
            have s1 := BGc.out.cell 1
            have s2 := BGc.out.cell 2
            simp only [List.getElem?_toArray, List.getElem?_cons_succ, List.getElem?_cons_zero] at s0 s1 s2
            go_upto_region 18 with (fail)
            obtain ⟨W5, hW5, bw5, ff5, bp5⟩ := put3 BGc.out BWc.out GW.out (.int .i64 R.w) (.int .i64 R.n) (.slice A11 R.all.length c11)
            rw [← hW5]
            have NP2 : Hid (¬ p2 = g) := Lib.hid (fun e => by have h1 := SGE.out; have h2 := BG1.out.lt; omega)
            have BR5 := Lib.hid (BRc.out.far ff5 (fun e => GR.out e.symm))
            have P25 := Lib.hid (P2c.out.far ff5 NP2.out)
            have V15 := Lib.hid (V1c.out.far ff5 (fun b hb _ e => hb.1 e))
            have V25 := Lib.hid (V2c.out.far ff5 (fun b hb _ e => hb.1 e))
            have BW5 := Lib.hid bw5
            have BP5 := Lib.hid bp5
            clear x0 x1 x2 y0 y1 y2 f0 f1 f2 s0 s1 s2 hW5 bw5 bp5 ff5
            have y0 := P25.out.cell 0
            have y1 := P25.out.cell 1
            have y2 := P25.out.cell 2
            have s0 := BR5.out.cell 0
            have s1 := BR5.out.cell 1
            have s2 := BR5.out.cell 2
            have f0 := BR5.out.frozen 0
            have f1 := BR5.out.frozen 1
            have f2 := BR5.out.frozen 2
            simp only [List.getElem?_toArray, List.getElem?_cons_succ, List.getElem?_cons_zero] at y0 y1 y2 s0 s1 s2
            go_wp2_with fail
            obtain ⟨W6, hW6, bw6, ff6, bp6⟩ := put3 BR5.out BW5.out RW.out (.int .i64 R.w) (.int .i64 R.n) (.slice A12 R.all.length c12)
            rw [← hW6]
            refine ⟨⟨k + 1, by go_num, by omega, Lib.hid ?_, Lib.hid bw6⟩, by simp [intOf]; omega⟩
            rw [STEP.out, ← HK.out]
            exact ⟨A11, c11, A12, c12, BP5.out.far ff6 GR.out, bp6, V15.out.far ff6 (fun b hb _ e => hb.2 e), V25.out.far ff6 (fun b hb _ e => hb.2 e)⟩
      · have i1 : ¬ (k : Int) < (z : Int) := by omega
        go_wp2_with fail
        go_ret
        exact ⟨rfl, W4.out.1⟩
end Go.Proofs.Ytdahhnefcageeaa

/-
  ModelBetween: the walk (written by makers/mdllaws.py).
-/
import Derived.Test.YtdahhnefcageeaaMdlWindow
import Derived.Test.YtdahhnefcageeaaMdlRefEq
import Derived.Deep.RegionHeld3
namespace Go.Proofs.Ytdahhnefcageeaa
open Go.RowKit Go.Proofs.Mdl
set_option linter.unusedVariables false
set_option linter.unusedSimpArgs false
theorem inv_between {M : Mod} (h : Inv M) {V U : Ver} (hV : V ∈ M.all) (hU : U ∈ M.all) : betweenM M V.b U.b = (diffM V.e U.e, 0) := by
  unfold betweenM
  rw [h.at_ hV, h.at_ hU]
  rfl
theorem diffM_self {a : List Ent} (h : Mdl.Good a) : diffM a a = [] := by rw [diffM_good h h, diff_self]
theorem diffM_len {a b : List Ent} (ha : Mdl.Good a) (hb : Mdl.Good b) : (diffM a b).length ≤ 1000 := by
  rw [diffM_good ha hb]
  have := diff_len _ a b (Nat.le_refl _)
  have := ha.few
  have := hb.few
  omega
theorem conv8 (a : Int) (h : (Lit.int .u8 a).wf = true) : ∃ n : Nat, a = (n : Int) ∧ n ≤ 255 ∧ IntKind.i64.wrap (n : Int) = (n : Int) := by
  have hb : 0 ≤ a ∧ a ≤ 255 := by
    have h2 : IntKind.u8.min ≤ a ∧ a ≤ IntKind.u8.max := by simpa [Lit.wf] using h
    simp [IntKind.min, IntKind.max, IntKind.bits, IntKind.signed] at h2
    omega
  refine ⟨a.toNat, by omega, by omega, IntWalk.i64_in _ (by omega)⟩
theorem Vl.atA {N : Nat → Prop} {w : World} {b o n c j : Nat} {L : List Ver} {V : Ver} (h : Vl N w (.slice (some ⟨b, o, none⟩) n c) L) (hj : L[j]? = some V) :
    ∃ ve vc, b < w.heap.size ∧ EsN N w ve V.e ∧ CsN N w vc V.c ∧ w.cell? ⟨b, o + j * 4, none⟩ = some (.int .i64 V.b) ∧ w.cell? ⟨b, o + j * 4 + 1, none⟩ = some ve ∧ w.cell? ⟨b, o + j * 4 + 2, none⟩ = some vc ∧ w.cell? ⟨b, o + j * 4 + 3, none⟩ = some (.int .i64 V.p) := by
  obtain ⟨b', o', c', ve, vc, he, h1⟩ := h.at_ hj
  simp only [Value.slice.injEq, Option.some.injEq, Addr.mk.injEq] at he
  obtain ⟨⟨rfl, rfl, -⟩, -, -⟩ := he
  exact ⟨ve, vc, h1⟩
theorem bel_trans {a b c : World} (h : Below a.heap.size a b) (k : Below b.heap.size b c) : Below a.heap.size a c := h.trans ((far_of_below k).below h.size (fun _ e => e.elim))
theorem between_inv {N : Nat → Prop} {w : World} {v : Value} {M : Mod} {V U : Ver} (h : Md N w v M) (I : Inv M) (hl : M.all.length ≤ 1000) (hV : V ∈ M.all) (hU : U ∈ M.all) :
    Calls Try.prog 20 #[v, .int .i64 V.b, .int .i64 U.b] w fun e w' => ∃ A c, e = .returned (.tuple #[.slice A (diffM V.e U.e).length c, .int .i64 0]) ∧ Cs w' (.slice A (diffM V.e U.e).length c) (diffM V.e U.e) ∧ Below w.heap.size w w' := by
  have h1 := between_any (a := V.b) (b := U.b) h hl (fun V hV => (invFew I V hV).1)
  rw [inv_between I hV hU] at h1
  refine h1.mono ?_
  rintro e w' ⟨v', rfl, hc, hb⟩
  obtain ⟨A, c, rfl⟩ := hc.toCs.shape
  exact ⟨A, c, rfl, hc.toCs, hb⟩
theorem between_self {N : Nat → Prop} {w : World} {v : Value} {M : Mod} {V : Ver} (h : Md N w v M) (I : Inv M) (hl : M.all.length ≤ 1000) (hV : V ∈ M.all) :
    Calls Try.prog 20 #[v, .int .i64 V.b, .int .i64 V.b] w fun e w' => ∃ A c, e = .returned (.tuple #[.slice A 0 c, .int .i64 0]) ∧ Below w.heap.size w w' := by
  refine (between_inv h I hl hV hV).mono ?_
  rintro e w' ⟨A, c, rfl, hc, hb⟩
  rw [diffM_self (I.ver V hV).2.2.2.1]
  exact ⟨A, c, rfl, hb⟩
theorem apply_inv {w : World} {vl vc : Value} {a b : List Ent} (ga : Mdl.Good a) (gb : Mdl.Good b) (hl : Es w vl a) (hc : Cs w vc (diffM a b)) :
    Calls Try.prog 29 #[vl, vc] w fun e w' => ∃ A c, e = .returned (.tuple #[.slice A b.length c, .int .i64 0]) ∧ Es w' (.slice A b.length c) b ∧ Below w.heap.size w w' := by
  have h1 := apply_any hl hc (by have := ga.few; omega) (diffM_len ga gb)
  rw [applyM_diff ga gb] at h1
  refine h1.mono ?_
  rintro e w' ⟨v', rfl, hc, hb⟩
  obtain ⟨A, c, rfl⟩ := hc.toEs.shape
  exact ⟨A, c, rfl, hc.toEs, hb⟩
theorem tmodN (n m : Nat) : ((n : Int).tmod (m : Int)) = ((n % m : Nat) : Int) := Int.tmod_eq_emod_of_nonneg (by omega)
set_option maxRecDepth 100000 in
set_option maxHeartbeats 4000000 in
theorem between_walk (w : World) (n : Int) (A : Option Addr) (c : Nat) (l : List Mdl.Act) (h : Lk w A l) (a2 a3 a4 : Int) (g2 : (Lit.int .u8 a2).wf = true) (g3 : (Lit.int .u8 a3).wf = true) (g4 : (Lit.int .u8 a4).wf = true) :
    Calls Try.prog 8 #[.int .i64 n, .slice A l.length c, .int .u8 a2, .int .u8 a3, .int .u8 a4] w fun e w' => e = .returned (.bool true) ∧ Below w.heap.size w w' := by
  have WK := Lib.hid (fun W => works_any W)
  have FW := Lib.hid (fun W (hW : Below w.heap.size w W) => few_any (c := c) (h.below hW))
  have NW := Lib.hid (fun W => new_any n W)
  have HL := Lib.hid h
  obtain ⟨z, hz⟩ : ∃ z, z = l.length := ⟨_, rfl⟩
  have HZ := Lib.hid hz
  rw [← hz] at FW ⊢
  have W0 := Lib.hid (Bl.start w)
  obtain ⟨n2, rfl, l2, v2⟩ := conv8 a2 g2
  obtain ⟨n3, rfl, l3, v3⟩ := conv8 a3 g3
  obtain ⟨n4, rfl, l4, v4⟩ := conv8 a4 g4
  clear h hz g2 g3 g4
  go_enter Try.func8, Try.ntmps8
  go_upto_region 5 with (first
    | (go_at_call 9; refine (WK.out _).mono ?_; rintro e w1 ⟨rfl, hb⟩; have W1 := Lib.hid (W0.out.call hb); clear hb)
    | (go_at_call 11; refine (FW.out _ W1.out.1).mono ?_; rintro e w2 ⟨⟨bf, rfl, hbf, rfl⟩⟩; have HBF := Lib.hid hbf; clear hbf))
  cases bf with
  | false =>
    go_wp2_with fail
    go_ret
    exact ⟨rfl, W1.out.1⟩
  | true =>
    obtain ⟨fl, fc⟩ := HBF.out rfl
    have FC := Lib.hid fc
    have zl : z ≤ 30 := by have := HZ.out; omega
    clear fl fc HBF FW WK
    go_upto_region 8 with (go_at_call 25; refine (NW.out _).mono ?_; rintro e w3 ⟨v3, rfl, hmd, hb⟩; obtain ⟨u3, hv3, hvl⟩ := hmd; obtain ⟨A3, c3, hs3⟩ := hvl.shape; subst hs3; subst hv3; have VL3 := Lib.hid hvl; have W3 := Lib.hid (W1.out.call hb); clear hb hvl)
    have bl4 : Below w3.heap.size w3 (w3.alloc (.cells #[.int .i64 (newM n).w, .int .i64 (newM n).n, .slice A3 (newM n).all.length c3] 24)) := (Below.refl _ _).alloc (Nat.le_refl _) _
    have HM4 : Hid (Hm (w3.alloc (.cells #[.int .i64 (newM n).w, .int .i64 (newM n).n, .slice A3 (newM n).all.length c3] 24)) w3.heap.size (newM n)) := Lib.hid ⟨A3, c3, Blk.new w3 _ _, ⟨_, rfl, (VL3.out.mono (N' := fun b => ¬ b = w3.heap.size) (fun b _ hb => by omega)).below bl4⟩⟩
    have W4 := Lib.hid (W3.out.call bl4)
    have GW := Lib.hid W3.out.2
    clear bl4
    generalize w3.alloc (.cells #[.int .i64 (newM n).w, .int .i64 (newM n).n, .slice A3 (newM n).all.length c3] 24) = w4 at *
    generalize w3.heap.size = g at *
    go_wp2_with fail
    go_loopw [14] (fun vi wr => ∃ k : Nat, vi = .int .i64 (k : Int) ∧ k ≤ z ∧ Hid (Hm wr g (runM (newM n) (l.take k))) ∧ Hid (Bl w.heap.size w wr)) (fun vi _ => z - (intOf vi).toNat)
    case atStart => exact ⟨0, rfl, Nat.zero_le _, HM4, W4⟩
    case round =>
      clear HM4 W4
      obtain ⟨k, rfl, hk, HM, W4⟩ := hrel
      by_cases hlt : k < z
      · obtain ⟨x, hx⟩ : ∃ x, l[k]? = some x := ⟨_, List.getElem?_eq_getElem (by rw [← HZ.out]; exact hlt)⟩
        obtain ⟨b, o, rfl, hbl, vc, d0, d1, d2, hcs⟩ := (HL.out.below W4.out.1).at_ k x hx
        have BGN : Hid (¬ b = g) := Lib.hid (fun e => by obtain ⟨b', o', e', hb', _⟩ := HL.out.at_ k x hx; cases e'; have := GW.out; omega)
        obtain ⟨A5, c5, hblk, hmd⟩ := HM.out
        have STEP := Lib.hid (runM_step (newM n) hx)
        obtain ⟨M, hM⟩ : ∃ M, M = runM (newM n) (l.take k) := ⟨_, rfl⟩
        have IM : Inv M := by rw [hM]; exact runM_inv _ (inv_new n)
        have LM : M.all.length ≤ 31 := by
          have h1 := runM_len (l.take k) (newM n)
          rw [← hM] at h1
          have h2 : (newM n).all.length = 1 := rfl
          rw [List.length_take] at h1
          omega
        rw [← hM] at hblk hmd STEP
        clear hM
        have CX := FC.out x (List.mem_of_getElem? hx)
        have IR : Hid (Inv (doM M x).1) := Lib.hid (IM.act x)
        have DO := Lib.hid (fun W (hW : Below wr.heap.size wr W) => do_any (a := x) (hmd.below hW) (hcs.below hW) (by omega) (invFew IM) (by omega))
        obtain ⟨A6, c6, rfl⟩ := hcs.shape
        have BG := Lib.hid hblk
        have q0 := hblk.cell 0
        have q1 := hblk.cell 1
        have q2 := hblk.cell 2
        simp only [List.getElem?_toArray, List.getElem?_cons_succ, List.getElem?_cons_zero] at q0 q1 q2
        have i1 : (k : Int) < (z : Int) := by omega
        have wk : IntKind.i64.wrap ((k : Int) + 1) = (k : Int) + 1 := IntWalk.i64_in _ (by omega)
        clear hx hblk hmd hcs HM IM LM CX
        obtain ⟨K, hK⟩ : ∃ K, K = doM M x := ⟨_, rfl⟩
        have HK := Lib.hid hK
        rw [← hK] at DO IR
        clear hK
        obtain ⟨R, e1, e2⟩ := K
        simp only at DO IR
        have GL := Lib.hid BG.out.lt
        have BL := Lib.hid hbl
        have D0 := Lib.hid d0
        have D1 := Lib.hid d1
        have D2 := Lib.hid d2
        go_upto_region 11 with (fail)
        have F0 : Hid (Far (fun i => i = g) wr wr.drew) := Lib.hid (Far.refl _ wr).drew
        have G0 : Hid (Below wr.heap.size wr wr.drew) := Lib.hid ((Bl.start wr).drewN 1).1
        have WD := Lib.hid W4.out.drew
        have BD := Lib.hid (BG.out.drewN 1)
        go_region_law (first
            | (go_simp; go_at_call 12; (with_reducible refine (DO.out _ G0.out).mono ?_); rintro e w5 ⟨v5, rfl, hmd, hb⟩; obtain ⟨u5, hv5, hvl⟩ := hmd; obtain ⟨A7, c7, hs5⟩ := hvl.shape; subst hs5; subst hv5; have VL5 := Lib.hid hvl; have F1 := Lib.hid (farEv_trans g _ _ _ F0.out (farEv_below g hb)); have F2 := Lib.hid (((F1.out.setCell (p := ⟨g, 0, none⟩) (fun _ => rfl) (.int .i64 R.w)).setCell (p := ⟨g, 1, none⟩) (fun _ => rfl) (.int .i64 R.n)).setCell (p := ⟨g, 2, none⟩) (fun _ => rfl) (.slice A7 R.all.length c7)); have W5 := Lib.hid (WD.out.call hb); have BG5 := Lib.hid (Blk.below (w := wr.drew) BD.out hb); have r0 := BG5.out.cell 0; have r1 := BG5.out.cell 1; have r2 := BG5.out.cell 2; simp only [List.getElem?_toArray, List.getElem?_cons_succ, List.getElem?_cons_zero] at r0 r1 r2; have f0 := BG5.out.frozen 0; have f1 := BG5.out.frozen 1; have f2 := BG5.out.frozen 2; clear hb hvl))
        all_goals (
          go_wp2_with fail
          obtain ⟨W', hW', bw', ff', bp'⟩ := put3 BG5.out W5.out GW.out (.int .i64 R.w) (.int .i64 R.n) (.slice A7 R.all.length c7)
          rw [← hW']
          have VLn := Lib.hid ((VL5.out.mono (N' := fun b => ¬ b = g) (fun b hb _ => by have := GL.out; rcases hb with hb | hb; exact hb; have h9 : wr.heap.size ≤ b := hb; omega)).far ff' (fun b hb _ e => hb e))
          have FF := Lib.hid (farEv_trans g _ _ _ F1.out ff')
          refine ⟨⟨k + 1, rfl, hlt, Lib.hid ?_, Lib.hid bw'⟩, by simp [intOf]; omega⟩
          rw [STEP.out, ← HK.out]
          exact ⟨A7, c7, bp', ⟨_, rfl, VLn.out⟩⟩)
      · have i1 : ¬ (k : Int) < (z : Int) := by omega
        obtain rfl : k = z := by omega
        have tk : l.take k = l := by rw [HZ.out, List.take_length]
        rw [tk] at HM
        clear tk
        obtain ⟨M, hM⟩ : ∃ M, M = runM (newM n) l := ⟨_, rfl⟩
        have IM : Inv M := by rw [hM]; exact runM_inv _ (inv_new n)
        have LM : M.all.length ≤ 31 := by
          have h1 := runM_len l (newM n)
          rw [← hM] at h1
          have h2 : (newM n).all.length = 1 := rfl
          have := HZ.out
          omega
        have PM : Hid (PinsLe M 30) := Lib.hid (by
          have h1 := runM_pins l (new_pins n) (Int.le_refl _)
          rw [← hM] at h1
          intro V hV
          have := h1 V hV
          have := HZ.out
          omega)
        have HW9 : Hid (M.w = (newM n).w) := Lib.hid (by rw [hM, runM_w])
        rw [← hM] at HM
        have INV := Lib.hid IM
        obtain ⟨A5, c5, hblk, hmd⟩ := HM.out
        have BG := Lib.hid hblk
        have MD := Lib.hid hmd
        have GL := Lib.hid BG.out.lt
        have q0 := BG.out.cell 0
        have q1 := BG.out.cell 1
        have q2 := BG.out.cell 2
        simp only [List.getElem?_toArray, List.getElem?_cons_succ, List.getElem?_cons_zero] at q0 q1 q2
        have f0 := BG.out.frozen 0
        have f1 := BG.out.frozen 1
        have f2 := BG.out.frozen 2
        clear hM IM hblk hmd HM
        have hne : 0 < M.all.length := by
          cases hl : M.all with
          | nil => exact absurd hl INV.out.ne
          | cons _ _ => simp
        obtain ⟨m, hm⟩ : ∃ m, m = M.all.length := ⟨_, rfl⟩
        have MN := Lib.hid hm
        obtain ⟨u5, hu5, hvl5⟩ := MD.out
        simp only [Value.agg.injEq, Array.mk.injEq, List.cons.injEq, true_and, and_true] at hu5
        subst hu5
        have VL := Lib.hid hvl5
        clear hvl5 MD PM
        rw [← hm] at LM VL BG q2 hne
        clear hm
        obtain ⟨i2, hi2⟩ : ∃ i, i = n2 % m := ⟨_, rfl⟩
        have lt2 : i2 < m := by rw [hi2]; exact Nat.mod_lt _ hne
        have tm2 : ((n2 : Int).tmod (m : Int)) = (i2 : Int) := by rw [hi2]; exact tmodN _ _
        clear hi2
        obtain ⟨V2, h2⟩ : ∃ X, M.all[i2]? = some X := ⟨_, List.getElem?_eq_getElem (by rw [← MN.out]; exact lt2)⟩
        obtain ⟨i3, hi3⟩ : ∃ i, i = n3 % m := ⟨_, rfl⟩
        have lt3 : i3 < m := by rw [hi3]; exact Nat.mod_lt _ hne
        have tm3 : ((n3 : Int).tmod (m : Int)) = (i3 : Int) := by rw [hi3]; exact tmodN _ _
        clear hi3
        obtain ⟨V3, h3⟩ : ∃ X, M.all[i3]? = some X := ⟨_, List.getElem?_eq_getElem (by rw [← MN.out]; exact lt3)⟩
        obtain ⟨i4, hi4⟩ : ∃ i, i = n4 % m := ⟨_, rfl⟩
        have lt4 : i4 < m := by rw [hi4]; exact Nat.mod_lt _ hne
        have tm4 : ((n4 : Int).tmod (m : Int)) = (i4 : Int) := by rw [hi4]; exact tmodN _ _
        clear hi4
        obtain ⟨V4, h4⟩ : ∃ X, M.all[i4]? = some X := ⟨_, List.getElem?_eq_getElem (by rw [← MN.out]; exact lt4)⟩
        have m0 : ((m : Int) == 0) = false := by simp; omega
        have mz : ¬ (m : Int) = 0 := by omega
        have mq : ¬ m = 0 := by omega
        go_upto_region 14 with (fail)
        have BW := Lib.hid W4.out
        clear q0 q1 q2 f0 f1 f2
        obtain ⟨bV, oV, cV, _, _, he, _⟩ := VL.out.at_ h2
        simp only [Value.slice.injEq] at he
        obtain ⟨rfl, -, -⟩ := he
        obtain ⟨ve2, vc2, hbl, hve, hvc, d0, d1, d2, d3⟩ := VL.out.atA h2
        obtain ⟨Ae2, ce2, rfl⟩ := hve.toEs.shape
        obtain ⟨Ac2, cc2, rfl⟩ := hvc.toCs.shape
        have VE2 := Lib.hid hve
        have ST : Hid (∀ W, Below wr.heap.size wr W → W.cell? ⟨g, 2, none⟩ = some (.slice (some ⟨bV, oV, none⟩) m c5) ∧ W.cell? ⟨bV, oV + i2 * 4, none⟩ = some (.int .i64 V2.b) ∧ W.cell? ⟨bV, oV + i2 * 4 + 1, none⟩ = some (.slice Ae2 V2.e.length ce2) ∧ W.cell? ⟨bV, oV + i2 * 4 + 2, none⟩ = some (.slice Ac2 V2.c.length cc2) ∧ W.cell? ⟨bV, oV + i2 * 4 + 3, none⟩ = some (.int .i64 V2.p)) := Lib.hid (fun W hW => ⟨(hW.cell (p := ⟨g, 2, none⟩) BG.out.lt).trans (by have := BG.out.cell 2; simpa using this), (hW.cell (p := ⟨bV, _, none⟩) hbl).trans d0, (hW.cell (p := ⟨bV, _, none⟩) hbl).trans d1, (hW.cell (p := ⟨bV, _, none⟩) hbl).trans d2, (hW.cell (p := ⟨bV, _, none⟩) hbl).trans d3⟩)
        have j2 : (i2 : Int) < (m : Int) := by omega
        have G0 : Hid (Below wr.heap.size wr wr.drew) := Lib.hid ((Bl.start wr).drewN 1).1
        clear d0 d1 d2 d3 hbl hve hvc
        go_cut [15] from 58 to 67 (fun v15 wq => v15 = .pointer (some ⟨wr.heap.size, 0, none⟩) ∧ wq = (wr.alloc (.cells #[.int .i64 V2.b, .slice Ae2 V2.e.length ce2, .slice Ac2 V2.c.length cc2, .int .i64 V2.p] 62)).drew)
        case first =>
          go_region_held3 (fun W => W.cell? ⟨g, 2, none⟩ = some (.slice (some ⟨bV, oV, none⟩) m c5) ∧ W.cell? ⟨bV, oV + i2 * 4, none⟩ = some (.int .i64 V2.b) ∧ W.cell? ⟨bV, oV + i2 * 4 + 1, none⟩ = some (.slice Ae2 V2.e.length ce2) ∧ W.cell? ⟨bV, oV + i2 * 4 + 2, none⟩ = some (.slice Ac2 V2.c.length cc2) ∧ W.cell? ⟨bV, oV + i2 * 4 + 3, none⟩ = some (.int .i64 V2.p))
            (first | (with_reducible exact ST.out _ G0.out) | (exact ST.out _ (G0.out.alloc (Nat.le_refl _) _)))
            (fail)
          all_goals (
            go_wp2_with fail
            go_meet
            exact ⟨rfl, rfl⟩)
        case rest =>
          obtain ⟨e15, ew⟩ := hcut
          rename World => wx
          subst e15
          have hb : Below wr.heap.size wr wx := by rw [ew]; exact (((Bl.start wr).alloc _).drewN 1).1
          have BX2 : Hid (Blk wx wr.heap.size 62 #[.int .i64 V2.b, .slice Ae2 V2.e.length ce2, .slice Ac2 V2.c.length cc2, .int .i64 V2.p]) := Lib.hid (by rw [ew]; exact (Blk.new wr _ _).drewN 1)
          replace VE2 := Lib.hid (VE2.out.below hb)
          replace BG := Lib.hid (BG.out.below hb)
          replace VL := Lib.hid (VL.out.below hb)
          replace BW := Lib.hid (BW.out.call hb)
          generalize wr.heap.size = p2 at *
          clear ew hb ST G0
          go_upto_region 15 with (fail)
          obtain ⟨ve3, vc3, hbl, hve, hvc, d0, d1, d2, d3⟩ := VL.out.atA h3
          obtain ⟨Ae3, ce3, rfl⟩ := hve.toEs.shape
          obtain ⟨Ac3, cc3, rfl⟩ := hvc.toCs.shape
          have VE3 := Lib.hid hve
          have ST : Hid (∀ W, Below wx.heap.size wx W → W.cell? ⟨g, 2, none⟩ = some (.slice (some ⟨bV, oV, none⟩) m c5) ∧ W.cell? ⟨bV, oV + i3 * 4, none⟩ = some (.int .i64 V3.b) ∧ W.cell? ⟨bV, oV + i3 * 4 + 1, none⟩ = some (.slice Ae3 V3.e.length ce3) ∧ W.cell? ⟨bV, oV + i3 * 4 + 2, none⟩ = some (.slice Ac3 V3.c.length cc3) ∧ W.cell? ⟨bV, oV + i3 * 4 + 3, none⟩ = some (.int .i64 V3.p)) := Lib.hid (fun W hW => ⟨(hW.cell (p := ⟨g, 2, none⟩) BG.out.lt).trans (by have := BG.out.cell 2; simpa using this), (hW.cell (p := ⟨bV, _, none⟩) hbl).trans d0, (hW.cell (p := ⟨bV, _, none⟩) hbl).trans d1, (hW.cell (p := ⟨bV, _, none⟩) hbl).trans d2, (hW.cell (p := ⟨bV, _, none⟩) hbl).trans d3⟩)
          have j3 : (i3 : Int) < (m : Int) := by omega
          have G0 : Hid (Below wx.heap.size wx wx.drew) := Lib.hid ((Bl.start wx).drewN 1).1
          clear d0 d1 d2 d3 hbl hve hvc
          go_cut [16] from 68 to 77 (fun v15 wq => v15 = .pointer (some ⟨wx.heap.size, 0, none⟩) ∧ wq = (wx.alloc (.cells #[.int .i64 V3.b, .slice Ae3 V3.e.length ce3, .slice Ac3 V3.c.length cc3, .int .i64 V3.p] 62)).drew)
          case first =>
            go_region_held3 (fun W => W.cell? ⟨g, 2, none⟩ = some (.slice (some ⟨bV, oV, none⟩) m c5) ∧ W.cell? ⟨bV, oV + i3 * 4, none⟩ = some (.int .i64 V3.b) ∧ W.cell? ⟨bV, oV + i3 * 4 + 1, none⟩ = some (.slice Ae3 V3.e.length ce3) ∧ W.cell? ⟨bV, oV + i3 * 4 + 2, none⟩ = some (.slice Ac3 V3.c.length cc3) ∧ W.cell? ⟨bV, oV + i3 * 4 + 3, none⟩ = some (.int .i64 V3.p))
              (first | (with_reducible exact ST.out _ G0.out) | (exact ST.out _ (G0.out.alloc (Nat.le_refl _) _)))
              (fail)
            all_goals (
              go_wp2_with fail
              go_meet
              exact ⟨rfl, rfl⟩)
          case rest =>
            obtain ⟨e15, ew⟩ := hcut
            rename World => wy
            subst e15
            have hb : Below wx.heap.size wx wy := by rw [ew]; exact (((Bl.start wx).alloc _).drewN 1).1
            have BX3 : Hid (Blk wy wx.heap.size 62 #[.int .i64 V3.b, .slice Ae3 V3.e.length ce3, .slice Ac3 V3.c.length cc3, .int .i64 V3.p]) := Lib.hid (by rw [ew]; exact (Blk.new wx _ _).drewN 1)
            replace VE3 := Lib.hid (VE3.out.below hb)
            replace BG := Lib.hid (BG.out.below hb)
            replace VL := Lib.hid (VL.out.below hb)
            replace BW := Lib.hid (BW.out.call hb)
            replace BX2 := Lib.hid (BX2.out.below hb)
            replace VE2 := Lib.hid (VE2.out.below hb)
            generalize wx.heap.size = p3 at *
            clear ew hb ST G0
            go_upto_region 16 with (fail)
            obtain ⟨ve4, vc4, hbl, hve, hvc, d0, d1, d2, d3⟩ := VL.out.atA h4
            obtain ⟨Ae4, ce4, rfl⟩ := hve.toEs.shape
            obtain ⟨Ac4, cc4, rfl⟩ := hvc.toCs.shape
            have VE4 := Lib.hid hve
            have ST : Hid (∀ W, Below wy.heap.size wy W → W.cell? ⟨g, 2, none⟩ = some (.slice (some ⟨bV, oV, none⟩) m c5) ∧ W.cell? ⟨bV, oV + i4 * 4, none⟩ = some (.int .i64 V4.b) ∧ W.cell? ⟨bV, oV + i4 * 4 + 1, none⟩ = some (.slice Ae4 V4.e.length ce4) ∧ W.cell? ⟨bV, oV + i4 * 4 + 2, none⟩ = some (.slice Ac4 V4.c.length cc4) ∧ W.cell? ⟨bV, oV + i4 * 4 + 3, none⟩ = some (.int .i64 V4.p)) := Lib.hid (fun W hW => ⟨(hW.cell (p := ⟨g, 2, none⟩) BG.out.lt).trans (by have := BG.out.cell 2; simpa using this), (hW.cell (p := ⟨bV, _, none⟩) hbl).trans d0, (hW.cell (p := ⟨bV, _, none⟩) hbl).trans d1, (hW.cell (p := ⟨bV, _, none⟩) hbl).trans d2, (hW.cell (p := ⟨bV, _, none⟩) hbl).trans d3⟩)
            have j4 : (i4 : Int) < (m : Int) := by omega
            have G0 : Hid (Below wy.heap.size wy wy.drew) := Lib.hid ((Bl.start wy).drewN 1).1
            clear d0 d1 d2 d3 hbl hve hvc
            go_cut [17] from 78 to 87 (fun v15 wq => v15 = .pointer (some ⟨wy.heap.size, 0, none⟩) ∧ wq = (wy.alloc (.cells #[.int .i64 V4.b, .slice Ae4 V4.e.length ce4, .slice Ac4 V4.c.length cc4, .int .i64 V4.p] 62)).drew)
            case first =>
              go_region_held3 (fun W => W.cell? ⟨g, 2, none⟩ = some (.slice (some ⟨bV, oV, none⟩) m c5) ∧ W.cell? ⟨bV, oV + i4 * 4, none⟩ = some (.int .i64 V4.b) ∧ W.cell? ⟨bV, oV + i4 * 4 + 1, none⟩ = some (.slice Ae4 V4.e.length ce4) ∧ W.cell? ⟨bV, oV + i4 * 4 + 2, none⟩ = some (.slice Ac4 V4.c.length cc4) ∧ W.cell? ⟨bV, oV + i4 * 4 + 3, none⟩ = some (.int .i64 V4.p))
                (first | (with_reducible exact ST.out _ G0.out) | (exact ST.out _ (G0.out.alloc (Nat.le_refl _) _)))
                (fail)
              all_goals (
                go_wp2_with fail
                go_meet
                exact ⟨rfl, rfl⟩)
            case rest =>
              obtain ⟨e15, ew⟩ := hcut
              rename World => wz
              subst e15
              have hb : Below wy.heap.size wy wz := by rw [ew]; exact (((Bl.start wy).alloc _).drewN 1).1
              have BX4 : Hid (Blk wz wy.heap.size 62 #[.int .i64 V4.b, .slice Ae4 V4.e.length ce4, .slice Ac4 V4.c.length cc4, .int .i64 V4.p]) := Lib.hid (by rw [ew]; exact (Blk.new wy _ _).drewN 1)
              replace VE4 := Lib.hid (VE4.out.below hb)
              replace BG := Lib.hid (BG.out.below hb)
              replace VL := Lib.hid (VL.out.below hb)
              replace BW := Lib.hid (BW.out.call hb)
              replace BX2 := Lib.hid (BX2.out.below hb)
              replace VE2 := Lib.hid (VE2.out.below hb)
              replace BX3 := Lib.hid (BX3.out.below hb)
              replace VE3 := Lib.hid (VE3.out.below hb)
              generalize wy.heap.size = p4 at *
              clear ew hb ST G0
              go_upto_region 17 with (fail)
              have MDz : Hid (Md (fun b => ¬ b = g) wz (.agg #[.int .i64 M.w, .int .i64 M.n, .slice (some ⟨bV, oV, none⟩) m c5]) M) := Lib.hid ⟨_, rfl, VL.out⟩
              have GV : Hid (V2 ∈ M.all ∧ V3 ∈ M.all ∧ V4 ∈ M.all ∧ Mdl.Good V2.e ∧ Mdl.Good V3.e ∧ Mdl.Good V4.e ∧ M.all.length ≤ 1000) := Lib.hid (by
                have e2 := List.mem_of_getElem? h2
                have e3 := List.mem_of_getElem? h3
                have e4 := List.mem_of_getElem? h4
                exact ⟨e2, e3, e4, (INV.out.ver _ e2).2.2.2.1, (INV.out.ver _ e3).2.2.2.1, (INV.out.ver _ e4).2.2.2.1, by have := MN.out; omega⟩)
              obtain ⟨n, hn⟩ : ∃ n, n = V4.e.length := ⟨_, rfl⟩
              have CELL : Hid (∀ W, Below wz.heap.size wz W → W.cell? ⟨g, 0, none⟩ = some (.int .i64 M.w) ∧ W.cell? ⟨g, 1, none⟩ = some (.int .i64 M.n) ∧ W.cell? ⟨g, 2, none⟩ = some (.slice (some ⟨bV, oV, none⟩) m c5) ∧ W.cell? ⟨p2, 0, none⟩ = some (.int .i64 V2.b) ∧ W.cell? ⟨p2, 1, none⟩ = some (.slice Ae2 V2.e.length ce2) ∧ W.cell? ⟨p3, 0, none⟩ = some (.int .i64 V3.b) ∧ W.cell? ⟨p4, 0, none⟩ = some (.int .i64 V4.b) ∧ W.cell? ⟨p4, 1, none⟩ = some (.slice Ae4 V4.e.length ce4)) := Lib.hid (fun W hW => by
                have k1 := BG.out.below hW
                have k2 := BX2.out.below hW
                have k3 := BX3.out.below hW
                have k4 := BX4.out.below hW
                exact ⟨by simpa using k1.cell 0, by simpa using k1.cell 1, by simpa using k1.cell 2, by simpa using k2.cell 0, by simpa using k2.cell 1, by simpa using k3.cell 0, by simpa using k4.cell 0, by simpa using k4.cell 1⟩)
              have QE := Lib.hid (fun W (hW : Below wz.heap.size wz W) => And.intro (VE2.out.toEs.below hW) (VE4.out.toEs.below hW))
              clear VE2 VE3 VE4 BX2 BX3 BX4 BG VL j2 j3 j4 tm2 tm3 tm4 lt2 lt3 lt4 h2 h3 h4 v2 v3 v4 m0 mz hne MN
              obtain ⟨c0, c1, c2, x0, x1, y0, z0, z1⟩ := CELL.out _ (Below.refl _ _)
              have BB := Lib.hid (Below.refl wz.heap.size wz)
              go_upto_region 18 with (go_at_call 20; refine (between_inv (V := V2) (U := V3) MDz.out INV.out GV.out.2.2.2.2.2.2 GV.out.1 GV.out.2.1).mono ?_; rintro e w5 ⟨A6, c6, rfl, hcs, hb⟩; have C5 := Lib.hid hcs; have B5 := Lib.hid hb; clear hcs; clear hb c0 c1 c2 x0 x1 y0 z0 z1; obtain ⟨c0, c1, c2, x0, x1, y0, z0, z1⟩ := CELL.out _ B5.out)
              go_upto_region 19 with (go_at_call 20; refine (between_inv (V := V3) (U := V4) (MDz.out.below B5.out) INV.out GV.out.2.2.2.2.2.2 GV.out.2.1 GV.out.2.2.1).mono ?_; rintro e w6 ⟨A7, c7, rfl, hcs, hb⟩; have C6 := Lib.hid hcs; replace C5 := Lib.hid (C5.out.below hb); have B6 := Lib.hid (bel_trans B5.out hb); clear hcs; clear hb c0 c1 c2 x0 x1 y0 z0 z1; obtain ⟨c0, c1, c2, x0, x1, y0, z0, z1⟩ := CELL.out _ B6.out)
              go_upto_region 20 with (go_at_call 20; refine (between_self (V := V2) (MDz.out.below B6.out) INV.out GV.out.2.2.2.2.2.2 GV.out.1).mono ?_; rintro e w7 ⟨A8, c8, rfl, hb⟩; replace C5 := Lib.hid (C5.out.below hb); replace C6 := Lib.hid (C6.out.below hb); have B7 := Lib.hid (bel_trans B6.out hb); clear hb c0 c1 c2 x0 x1 y0 z0 z1; obtain ⟨c0, c1, c2, x0, x1, y0, z0, z1⟩ := CELL.out _ B7.out)
              go_upto_region 21 with (go_at_call 29; refine (apply_inv GV.out.2.2.2.1 GV.out.2.2.2.2.1 (QE.out _ B7.out).1 C5.out).mono ?_; rintro e w8 ⟨A9, c9, rfl, hes, hb⟩; have E8 := Lib.hid hes; replace C6 := Lib.hid (C6.out.below hb); have B8 := Lib.hid (bel_trans B7.out hb); clear hes; clear hb c0 c1 c2 x0 x1 y0 z0 z1; obtain ⟨c0, c1, c2, x0, x1, y0, z0, z1⟩ := CELL.out _ B8.out)
              go_upto_region 22 with (go_at_call 29; refine (apply_inv GV.out.2.2.2.2.1 GV.out.2.2.2.2.2.1 E8.out C6.out).mono ?_; rintro e w9 ⟨A10, c10, rfl, hes, hb⟩; have E9 := Lib.hid hes; have B9 := Lib.hid (bel_trans B8.out hb); clear hes; clear hb c0 c1 c2 x0 x1 y0 z0 z1; obtain ⟨c0, c1, c2, x0, x1, y0, z0, z1⟩ := CELL.out _ B9.out)
              have SM := Lib.hid (sameE_any E9.out (QE.out _ B9.out).2 (by have := GV.out.2.2.2.2.2.1.few; omega))
              rw [show decide (V4.e = V4.e) = true from decide_eq_true rfl] at SM
              go_wp2_with (go_at_call 23; refine SM.out.mono ?_; rintro e w10 ⟨rfl, hb⟩; have B10 := Lib.hid (bel_trans B9.out hb); clear hb)
              go_ret
              exact ⟨rfl, (BW.out.call B10.out).1⟩
end Go.Proofs.Ytdahhnefcageeaa

/-
  ModelWindow: the walk (written by makers/mdllaws.py).
-/
import Derived.Test.YtdahhnefcageeaaMdlPinsP
import Derived.Test.YtdahhnefcageeaaMdlWorks
import Derived.Test.YtdahhnefcageeaaGaMdR5
import Derived.Deep.RegionLaw
namespace Go.Proofs.Ytdahhnefcageeaa
open Go.RowKit Go.Proofs.Mdl
set_option linter.unusedVariables false
set_option linter.unusedSimpArgs false
/-- A box that holds a model; the model lies elsewhere. -/
def Hm (w : World) (g : Nat) (M : Mod) : Prop := ∃ A c, Blk w g 24 #[.int .i64 M.w, .int .i64 M.n, .slice A M.all.length c] ∧ Md (fun b => ¬ b = g) w (.agg #[.int .i64 M.w, .int .i64 M.n, .slice A M.all.length c]) M
theorem invFew {M : Mod} (h : Inv M) : ∀ V ∈ M.all, V.e.length ≤ 1000 ∧ V.c.length ≤ 1000 := fun V hV => by
  obtain ⟨_, _, _, h4, h5, _⟩ := h.ver V hV
  have := h4.few
  exact ⟨by omega, by omega⟩
set_option maxRecDepth 100000 in
set_option maxHeartbeats 4000000 in
theorem window_walk (w : World) (n : Int) (A : Option Addr) (c : Nat) (l : List Mdl.Act) (h : Lk w A l) :
    Calls Try.prog 7 #[.int .i64 n, .slice A l.length c] w fun e w' => e = .returned (.bool true) ∧ Below w.heap.size w w' := by
  have WK := Lib.hid (fun W => works_any W)
  have FW := Lib.hid (fun W (hW : Below w.heap.size w W) => few_any (c := c) (h.below hW))
  have NW := Lib.hid (fun W => new_any n W)
  have HL := Lib.hid h
  obtain ⟨z, hz⟩ : ∃ z, z = l.length := ⟨_, rfl⟩
  have HZ := Lib.hid hz
  rw [← hz] at FW ⊢
  have W0 := Lib.hid (Bl.start w)
  clear h hz
  go_enter Try.func7, Try.ntmps7
  go_upto_region 5 with (first
    | (go_at_call 9; refine (WK.out _).mono ?_; rintro e w1 ⟨rfl, hb⟩; have W1 := Lib.hid (W0.out.call hb); clear hb)
    | (go_at_call 11; refine (FW.out _ W1.out.1).mono ?_; rintro e w2 ⟨⟨bf, rfl, hbf, rfl⟩⟩; have HBF := Lib.hid hbf; clear hbf))
  cases bf with
  | false =>
    go_wp2_with fail
    go_ret
    exact ⟨rfl, W1.out.1⟩
  | true =>
    obtain ⟨fl, fc⟩ := HBF.out rfl
    have FC := Lib.hid fc
    have zl : z ≤ 30 := by have := HZ.out; omega
    clear fl fc HBF FW WK
    go_upto_region 8 with (go_at_call 25; refine (NW.out _).mono ?_; rintro e w3 ⟨v3, rfl, hmd, hb⟩; obtain ⟨u3, hv3, hvl⟩ := hmd; obtain ⟨A3, c3, hs3⟩ := hvl.shape; subst hs3; subst hv3; have VL3 := Lib.hid hvl; have W3 := Lib.hid (W1.out.call hb); clear hb hvl)
    have bl4 : Below w3.heap.size w3 (w3.alloc (.cells #[.int .i64 (newM n).w, .int .i64 (newM n).n, .slice A3 (newM n).all.length c3] 24)) := (Below.refl _ _).alloc (Nat.le_refl _) _
    have HM4 : Hid (Hm (w3.alloc (.cells #[.int .i64 (newM n).w, .int .i64 (newM n).n, .slice A3 (newM n).all.length c3] 24)) w3.heap.size (newM n)) := Lib.hid ⟨A3, c3, Blk.new w3 _ _, ⟨_, rfl, (VL3.out.mono (N' := fun b => ¬ b = w3.heap.size) (fun b _ hb => by omega)).below bl4⟩⟩
    have W4 := Lib.hid (W3.out.call bl4)
    have GW := Lib.hid W3.out.2
    clear bl4
    generalize w3.alloc (.cells #[.int .i64 (newM n).w, .int .i64 (newM n).n, .slice A3 (newM n).all.length c3] 24) = w4 at *
    generalize w3.heap.size = g at *
    go_wp2_with fail
    go_loopw [8] (fun vi wr => ∃ k : Nat, vi = .int .i64 (k : Int) ∧ k ≤ z ∧ Hid (Hm wr g (runM (newM n) (l.take k))) ∧ Hid (Bl w.heap.size w wr)) (fun vi _ => z - (intOf vi).toNat)
    case atStart => exact ⟨0, rfl, Nat.zero_le _, HM4, W4⟩
    case round =>
      clear HM4 W4
      obtain ⟨k, rfl, hk, HM, W4⟩ := hrel
      by_cases hlt : k < z
      · obtain ⟨x, hx⟩ : ∃ x, l[k]? = some x := ⟨_, List.getElem?_eq_getElem (by rw [← HZ.out]; exact hlt)⟩
        obtain ⟨b, o, rfl, hbl, vc, d0, d1, d2, hcs⟩ := (HL.out.below W4.out.1).at_ k x hx
        have BGN : Hid (¬ b = g) := Lib.hid (fun e => by obtain ⟨b', o', e', hb', _⟩ := HL.out.at_ k x hx; cases e'; have := GW.out; omega)
        obtain ⟨A5, c5, hblk, hmd⟩ := HM.out
        have STEP := Lib.hid (runM_step (newM n) hx)
        obtain ⟨M, hM⟩ : ∃ M, M = runM (newM n) (l.take k) := ⟨_, rfl⟩
        have IM : Inv M := by rw [hM]; exact runM_inv _ (inv_new n)
        have LM : M.all.length ≤ 31 := by
          have h1 := runM_len (l.take k) (newM n)
          rw [← hM] at h1
          have h2 : (newM n).all.length = 1 := rfl
          rw [List.length_take] at h1
          omega
        rw [← hM] at hblk hmd STEP
        clear hM
        have CX := FC.out x (List.mem_of_getElem? hx)
        have IR : Hid (Inv (doM M x).1) := Lib.hid (IM.act x)
        have DO := Lib.hid (fun W (hW : Below wr.heap.size wr W) => do_any (a := x) (hmd.below hW) (hcs.below hW) (by omega) (invFew IM) (by omega))
        obtain ⟨A6, c6, rfl⟩ := hcs.shape
        have BG := Lib.hid hblk
        have q0 := hblk.cell 0
        have q1 := hblk.cell 1
        have q2 := hblk.cell 2
        simp only [List.getElem?_toArray, List.getElem?_cons_succ, List.getElem?_cons_zero] at q0 q1 q2
        have i1 : (k : Int) < (z : Int) := by omega
        have wk : IntKind.i64.wrap ((k : Int) + 1) = (k : Int) + 1 := IntWalk.i64_in _ (by omega)
        clear hx hblk hmd hcs HM IM LM CX
        obtain ⟨K, hK⟩ : ∃ K, K = doM M x := ⟨_, rfl⟩
        have HK := Lib.hid hK
        rw [← hK] at DO IR
        clear hK
        obtain ⟨R, e1, e2⟩ := K
        simp only at DO IR
        have GL := Lib.hid BG.out.lt
        have BL := Lib.hid hbl
        have D0 := Lib.hid d0
        have D1 := Lib.hid d1
        have D2 := Lib.hid d2
        go_upto_region 11 with (fail)
        have F0 : Hid (Far (fun i => i = g) wr wr.drew) := Lib.hid (Far.refl _ wr).drew
        have G0 : Hid (Below wr.heap.size wr wr.drew) := Lib.hid ((Bl.start wr).drewN 1).1
        have WD := Lib.hid W4.out.drew
        have BD := Lib.hid (BG.out.drewN 1)
        go_region_law (first
            | (go_simp; go_at_call 12; (with_reducible refine (DO.out _ G0.out).mono ?_); rintro e w5 ⟨v5, rfl, hmd, hb⟩; obtain ⟨u5, hv5, hvl⟩ := hmd; obtain ⟨A7, c7, hs5⟩ := hvl.shape; subst hs5; subst hv5; have VL5 := Lib.hid hvl; have F1 := Lib.hid (farEv_trans g _ _ _ F0.out (farEv_below g hb)); have F2 := Lib.hid (((F1.out.setCell (p := ⟨g, 0, none⟩) (fun _ => rfl) (.int .i64 R.w)).setCell (p := ⟨g, 1, none⟩) (fun _ => rfl) (.int .i64 R.n)).setCell (p := ⟨g, 2, none⟩) (fun _ => rfl) (.slice A7 R.all.length c7)); have W5 := Lib.hid (WD.out.call hb); have BG5 := Lib.hid (Blk.below (w := wr.drew) BD.out hb); have r0 := BG5.out.cell 0; have r1 := BG5.out.cell 1; have r2 := BG5.out.cell 2; simp only [List.getElem?_toArray, List.getElem?_cons_succ, List.getElem?_cons_zero] at r0 r1 r2; have f0 := BG5.out.frozen 0; have f1 := BG5.out.frozen 1; have f2 := BG5.out.frozen 2; clear hb hvl))
        all_goals (
          go_wp2_with fail
          obtain ⟨W', hW', bw', ff', bp'⟩ := put3 BG5.out W5.out GW.out (.int .i64 R.w) (.int .i64 R.n) (.slice A7 R.all.length c7)
          rw [← hW']
          have VLn := Lib.hid ((VL5.out.mono (N' := fun b => ¬ b = g) (fun b hb _ => by have := GL.out; rcases hb with hb | hb; exact hb; have h9 : wr.heap.size ≤ b := hb; omega)).far ff' (fun b hb _ e => hb e))
          have FF := Lib.hid (farEv_trans g _ _ _ F1.out ff')
          refine ⟨⟨k + 1, rfl, hlt, Lib.hid ?_, Lib.hid bw'⟩, by simp [intOf]; omega⟩
          rw [STEP.out, ← HK.out]
          exact ⟨A7, c7, bp', ⟨_, rfl, VLn.out⟩⟩)
      · have i1 : ¬ (k : Int) < (z : Int) := by omega
        obtain rfl : k = z := by omega
        have tk : l.take k = l := by rw [HZ.out, List.take_length]
        rw [tk] at HM
        clear tk
        obtain ⟨M, hM⟩ : ∃ M, M = runM (newM n) l := ⟨_, rfl⟩
        have IM : Inv M := by rw [hM]; exact runM_inv _ (inv_new n)
        have LM : M.all.length ≤ 31 := by
          have h1 := runM_len l (newM n)
          rw [← hM] at h1
          have h2 : (newM n).all.length = 1 := rfl
          have := HZ.out
          omega
        have PM : Hid (PinsLe M 30) := Lib.hid (by
          have h1 := runM_pins l (new_pins n) (Int.le_refl _)
          rw [← hM] at h1
          intro V hV
          have := h1 V hV
          have := HZ.out
          omega)
        have HW9 : Hid (M.w = (newM n).w) := Lib.hid (by rw [hM, runM_w])
        rw [← hM] at HM
        have INV := Lib.hid IM
        obtain ⟨A5, c5, hblk, hmd⟩ := HM.out
        have BG := Lib.hid hblk
        have MD := Lib.hid hmd
        have GL := Lib.hid BG.out.lt
        have q0 := BG.out.cell 0
        have q1 := BG.out.cell 1
        have q2 := BG.out.cell 2
        simp only [List.getElem?_toArray, List.getElem?_cons_succ, List.getElem?_cons_zero] at q0 q1 q2
        have f0 := BG.out.frozen 0
        have f1 := BG.out.frozen 1
        have f2 := BG.out.frozen 2
        clear hM IM hblk hmd HM
        have hw : min (max n 1) 8 = M.w := by have h1 := HW9.out; rw [h1]; rfl
        obtain ⟨r1, r2, r3, r4⟩ := INV.out.right
        obtain ⟨m, hm⟩ : ∃ m, m = M.all.length := ⟨_, rfl⟩
        have MN := Lib.hid hm
        obtain ⟨u5, hu5, hvl5⟩ := MD.out
        simp only [Value.agg.injEq, Array.mk.injEq, List.cons.injEq, true_and, and_true] at hu5
        subst hu5
        have VL := Lib.hid hvl5
        clear hvl5
        rw [← hm] at LM VL BG q2
        clear hm
        have CT := Lib.hid INV.out.count
        go_upto_region 15 with (fail)
        clear hw
        go_loopw [10, 11] (fun vt vi ww => ∃ k q : Nat, vi = .int .i64 (k : Int) ∧ k ≤ m ∧ ww = wr.drewN q ∧ ∃ t : Nat, vt = .int .i64 (t : Int) ∧ t ≤ k ∧ Hid (t = ((M.all.take k).filter (fun V => decide (M.n - M.w ≤ V.b))).length)) (fun _ vi _ => m - (intOf vi).toNat)
        case atStart => exact ⟨0, 0, rfl, Nat.zero_le _, rfl, 0, rfl, Nat.le_refl _, Lib.hid (by simp)⟩
        case round =>
          obtain ⟨k, q, rfl, hk, rfl, t, rfl, htk, HT⟩ := hrel
          by_cases hlt : k < m
          · obtain ⟨V, hV⟩ : ∃ V, M.all[k]? = some V := ⟨_, List.getElem?_eq_getElem (by rw [← MN.out]; exact hlt)⟩
            obtain ⟨b, o, c, ve, vc, he, hbl, _, _, d0, _, _, d3⟩ := VL.out.at_ hV
            rw [← MN.out] at he
            simp only [Value.slice.injEq] at he
            obtain ⟨rfl, -, rfl⟩ := he
            obtain ⟨v1, v2, v3, _, _, v6⟩ := INV.out.ver V (List.mem_of_getElem? hV)
            have i1 : (k : Int) < (m : Int) := by omega
            have wk : IntKind.i64.wrap ((k : Int) + 1) = (k : Int) + 1 := IntWalk.i64_in _ (by omega)
            have wt : IntKind.i64.wrap ((t : Int) + 1) = (t : Int) + 1 := IntWalk.i64_in _ (by omega)
            have wn : IntKind.i64.wrap (M.n - M.w) = M.n - M.w := IntWalk.i64_in _ (by omega)
            have TK : Hid (M.all.take (k + 1) = M.all.take k ++ [V]) := Lib.hid (by rw [List.take_add_one, hV]; rfl)
            clear hV
            by_cases hge : M.n - M.w ≤ V.b
            · have T2 : Hid (t + 1 = ((M.all.take (k + 1)).filter (fun V => decide (M.n - M.w ≤ V.b))).length) := Lib.hid (by rw [TK.out, List.filter_append, List.length_append, ← HT.out]; simp [hge])
              clear v6
              go_wp2_with fail
              go_quiet (fail)
              go_wp2_with fail
              exact ⟨⟨k + 1, _, by go_num, by omega, rfl, t + 1, by go_num, by omega, T2⟩, by simp [intOf]; omega⟩
            · have T2 : Hid (t = ((M.all.take (k + 1)).filter (fun V => decide (M.n - M.w ≤ V.b))).length) := Lib.hid (by rw [TK.out, List.filter_append, List.length_append, ← HT.out]; simp [hge])
              have hp : 0 < V.p := v6.resolve_left hge
              have hp1 : ¬ V.p < 1 := by omega
              clear v6
              go_wp2_with fail
              go_quiet (fail)
              go_wp2_with fail
              exact ⟨⟨k + 1, _, by go_num, by omega, rfl, t, rfl, by omega, T2⟩, by simp [intOf]; omega⟩
          · obtain rfl : k = m := by omega
            have i1 : ¬ (k : Int) < (k : Int) := by omega
            have tt : (t : Int) = min M.w M.n := by
              rw [← CT.out, HT.out]
              rw [MN.out, List.take_length]
            have te : ((t : Int) == min M.w M.n) = true := by rw [tt]; simp
            clear tt
            go_wp2_with fail
            go_ret
            exact ⟨rfl, (W4.out.drewN _).1⟩
end Go.Proofs.Ytdahhnefcageeaa

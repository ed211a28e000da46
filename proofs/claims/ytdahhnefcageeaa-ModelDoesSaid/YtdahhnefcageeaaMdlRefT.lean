/-
  The document's answer: the acts (out of MdlDo, by makers/mdlrdo.py).
-/
import Derived.Test.YtdahhnefcageeaaMdlRefM
import Derived.Test.YtdahhnefcageeaaMdlDo
namespace Go.Proofs.Ytdahhnefcageeaa
open Go.RowKit Go.Proofs.Mdl
set_option linter.unusedVariables false
set_option linter.unusedSimpArgs false
set_option maxRecDepth 100000 in
set_option maxHeartbeats 4000000 in
theorem told_any {N : Nat → Prop} {w : World} {v vc : Value} {M : Mod} {a : Mdl.Act} (h : Md N w v M) (hc : Cs w vc a.c) (hl : M.all.length ≤ 900) (hle : ∀ V ∈ M.all, V.e.length ≤ 1000 ∧ V.c.length ≤ 1000) (hcs : a.c.length ≤ 900) :
    Calls Try.prog 13 #[v, .agg #[.int .i64 a.k, vc, .int .i64 a.n]] w fun e w' => ∃ v', e = .returned (.tuple #[v', .int .i64 (doM M a).2.1, .int .i64 (doM M a).2.2]) ∧ Md (fun b => N b ∨ w.heap.size ≤ b) w' v' (doM M a).1 ∧ Below w.heap.size w w' := by
  have H : Hid (Md (fun b => N b ∧ b < w.heap.size) w v M) := Lib.hid (h.mono (fun b h1 h2 => ⟨h1, h2⟩))
  have HC := Lib.hid hc
  obtain ⟨u, rfl, hv⟩ := h
  obtain ⟨A, c, rfl⟩ := hv.shape
  obtain ⟨A0, c0, rfl⟩ := hc.shape
  obtain ⟨w3, g, q, p, hw, hg, hq, hp, hb, b1, b2, b3⟩ := three_boxes w 37 27 37 #[.int .i64 M.w, .int .i64 M.n, .slice A M.all.length c] #[.int .i64 a.k, .slice A0 a.c.length c0, .int .i64 a.n] #[.int .i64 0, .int .i64 0, .slice none 0 0]
  have BW := Lib.hid (Bl.call (Bl.start w) hb)
  have BP := Lib.hid b3
  have PW : Hid (w.heap.size ≤ p) := Lib.hid (by omega)
  have P3 := Lib.hid b3.lt
  have x0 := b1.cell 0
  have x1 := b1.cell 1
  have x2 := b1.cell 2
  have y0 := b2.cell 0
  have y1 := b2.cell 1
  have y2 := b2.cell 2
  simp only [List.getElem?_toArray, List.getElem?_cons_succ, List.getElem?_cons_zero] at x0 x1 x2 y0 y1 y2
  obtain ⟨K, hK⟩ : ∃ K, K = doM M a := ⟨_, rfl⟩
  rw [← hK]
  have HA := Lib.hid hK
  have CO := Lib.hid (rcommit_any (H.out.below hb) (HC.out.below hb) hl hle hcs)
  have PI := Lib.hid (rpin_any (b := a.n) (H.out.below hb) (Nat.le_trans hl (by decide)) hle)
  have UN := Lib.hid (runpin_any (b := a.n) (H.out.below hb) (Nat.le_trans hl (by decide)) hle)
  clear hv hc b1 b2 b3 hb hK hle
  by_cases h0 : a.k = 0
  · have hq0 : (a.k == 0) = true := beq_iff_eq.2 h0
    have HK : Hid (K = commitM M a.c) := Lib.hid (by rw [HA.out]; unfold doM; rw [if_pos h0])
    rw [← HK.out] at CO
    obtain ⟨R, r1, r2⟩ := K
    simp only at CO ⊢
    clear h0 HK HA PI UN
    go_enter Try.func13, Try.ntmps13
    go_upto_region 1 with (fail)
    rw [← hw, ← hp, ← hq, ← hg]
    clear hw hp hq hg
    go_wp2_with (go_at_call 33; refine CO.out.mono ?_; rintro e w4 ⟨v4, rfl, hmd, hb⟩; have BP4 := Lib.hid (BP.out.below hb); have BW4 := Lib.hid (BW.out.call hb); obtain ⟨u4, hv4, hvl⟩ := hmd; obtain ⟨A4, c4, hs4⟩ := hvl.shape; subst hs4; subst hv4; have VL4 := Lib.hid hvl; clear hb hvl x0 x1 x2 y0 y1 y2; have p0 := BP4.out.cell 0; have p1 := BP4.out.cell 1; have p2 := BP4.out.cell 2; simp only [List.getElem?_toArray, List.getElem?_cons_succ, List.getElem?_cons_zero] at p0 p1 p2; have f0 := BP4.out.frozen 0; have f1 := BP4.out.frozen 1; have f2 := BP4.out.frozen 2)
    obtain ⟨W', hW', bw', ff', bp'⟩ := put3 BP4.out BW4.out PW.out (.int .i64 R.w) (.int .i64 R.n) (.slice A4 R.all.length c4)
    rw [← hW']
    refine bodyPost_ret (results_r3 rfl _ _ _ rfl rfl rfl bp') rfl ?_
    have vl := (VL4.out.far ff' (fun b hb hlt e => by have e1 : b = p := e; have h9 : (N b ∧ b < w.heap.size) ∨ w3.heap.size ≤ b := hb; have := PW.out; have := P3.out; omega)).mono (N' := fun b => N b ∨ w.heap.size ≤ b) (fun b hb _ => by have h9 : (N b ∧ b < w.heap.size) ∨ w3.heap.size ≤ b := hb; have := BW.out.2; rcases h9 with h9 | h9; exact .inl h9.1; exact .inr (by omega))
    exact ⟨.agg #[.int .i64 R.w, .int .i64 R.n, .slice A4 R.all.length c4], rfl, ⟨_, rfl, vl⟩, bw'.1⟩
  · have hq0 : (a.k == 0) = false := beq_eq_false_iff_ne.2 h0
    by_cases h1 : a.k = 1
    · have hq1 : (a.k == 1) = true := beq_iff_eq.2 h1
      have HK : Hid (K = pinM M a.n) := Lib.hid (by rw [HA.out]; unfold doM; rw [if_neg h0, if_pos h1])
      rw [← HK.out] at PI
      obtain ⟨R, r1, r2⟩ := K
      simp only at PI ⊢
      clear h0 h1 HK HA CO UN
      go_enter Try.func13, Try.ntmps13
      go_upto_region 1 with (fail)
      rw [← hw, ← hp, ← hq, ← hg]
      clear hw hp hq hg
      go_wp2_with (go_at_call 34; refine PI.out.mono ?_; rintro e w4 ⟨v4, rfl, hmd, hb⟩; have BP4 := Lib.hid (BP.out.below hb); have BW4 := Lib.hid (BW.out.call hb); obtain ⟨u4, hv4, hvl⟩ := hmd; obtain ⟨A4, c4, hs4⟩ := hvl.shape; subst hs4; subst hv4; have VL4 := Lib.hid hvl; clear hb hvl x0 x1 x2 y0 y1 y2; have p0 := BP4.out.cell 0; have p1 := BP4.out.cell 1; have p2 := BP4.out.cell 2; simp only [List.getElem?_toArray, List.getElem?_cons_succ, List.getElem?_cons_zero] at p0 p1 p2; have f0 := BP4.out.frozen 0; have f1 := BP4.out.frozen 1; have f2 := BP4.out.frozen 2)
      obtain ⟨W', hW', bw', ff', bp'⟩ := put3 BP4.out BW4.out PW.out (.int .i64 R.w) (.int .i64 R.n) (.slice A4 R.all.length c4)
      rw [← hW']
      refine bodyPost_ret (results_r3 rfl _ _ _ rfl rfl rfl bp') rfl ?_
      have vl := (VL4.out.far ff' (fun b hb hlt e => by have e1 : b = p := e; have h9 : (N b ∧ b < w.heap.size) ∨ w3.heap.size ≤ b := hb; have := PW.out; have := P3.out; omega)).mono (N' := fun b => N b ∨ w.heap.size ≤ b) (fun b hb _ => by have h9 : (N b ∧ b < w.heap.size) ∨ w3.heap.size ≤ b := hb; have := BW.out.2; rcases h9 with h9 | h9; exact .inl h9.1; exact .inr (by omega))
      exact ⟨.agg #[.int .i64 R.w, .int .i64 R.n, .slice A4 R.all.length c4], rfl, ⟨_, rfl, vl⟩, bw'.1⟩
    · have hq1 : (a.k == 1) = false := beq_eq_false_iff_ne.2 h1
      have HK : Hid (K = ((unpinM M a.n).1, 0, (unpinM M a.n).2)) := Lib.hid (by rw [HA.out]; unfold doM; rw [if_neg h0, if_neg h1])
      obtain ⟨U, hU⟩ : ∃ U, U = unpinM M a.n := ⟨_, rfl⟩
      rw [← hU] at UN HK
      obtain ⟨R, r2⟩ := U
      have HK2 := HK.out
      simp only at UN HK2
      subst HK2
      clear h0 h1 HK HA CO PI hU
      go_enter Try.func13, Try.ntmps13
      go_upto_region 1 with (fail)
      rw [← hw, ← hp, ← hq, ← hg]
      clear hw hp hq hg
      go_upto_region 7 with (go_at_call 35; refine UN.out.mono ?_; rintro e w4 ⟨v4, rfl, hmd, hb⟩; have BP4 := Lib.hid (BP.out.below hb); have BW4 := Lib.hid (BW.out.call hb); obtain ⟨u4, hv4, hvl⟩ := hmd; obtain ⟨A4, c4, hs4⟩ := hvl.shape; subst hs4; subst hv4; have VL4 := Lib.hid hvl; clear hb hvl x0 x1 x2 y0 y1 y2)
      have bl5 : Below w4.heap.size w4 (w4.alloc (.cells #[.int .i64 R.w, .int .i64 R.n, .slice A4 R.all.length c4] 37)) := (Below.refl _ _).alloc (Nat.le_refl _) _
      have BN5 := Lib.hid (Blk.new w4 37 #[.int .i64 R.w, .int .i64 R.n, .slice A4 R.all.length c4])
      have BP5 := Lib.hid (BP4.out.below bl5)
      have BW5 := Lib.hid (BW4.out.call bl5)
      have VL5 := Lib.hid (VL4.out.below bl5)
      clear bl5
      generalize w4.alloc (.cells #[.int .i64 R.w, .int .i64 R.n, .slice A4 R.all.length c4] 37) = w5 at *
      generalize w4.heap.size = g7 at *
      have p0 := BP5.out.cell 0
      have p1 := BP5.out.cell 1
      have p2 := BP5.out.cell 2
      simp only [List.getElem?_toArray, List.getElem?_cons_succ, List.getElem?_cons_zero] at p0 p1 p2
      have f0 := BP5.out.frozen 0
      have f1 := BP5.out.frozen 1
      have f2 := BP5.out.frozen 2
      have n0 := BN5.out.cell 0
      have n1 := BN5.out.cell 1
      have n2 := BN5.out.cell 2
      simp only [List.getElem?_toArray, List.getElem?_cons_succ, List.getElem?_cons_zero] at n0 n1 n2
      go_wp2_with fail
      obtain ⟨W', hW', bw', ff', bp'⟩ := put3 BP5.out BW5.out PW.out (.int .i64 R.w) (.int .i64 R.n) (.slice A4 R.all.length c4)
      rw [← hW']
      refine bodyPost_ret (results_r3 rfl _ _ _ rfl rfl rfl bp') rfl ?_
      have vl := (VL5.out.far ff' (fun b hb hlt e => by have e1 : b = p := e; have h9 : (N b ∧ b < w.heap.size) ∨ w3.heap.size ≤ b := hb; have := PW.out; have := P3.out; omega)).mono (N' := fun b => N b ∨ w.heap.size ≤ b) (fun b hb _ => by have h9 : (N b ∧ b < w.heap.size) ∨ w3.heap.size ≤ b := hb; have := BW.out.2; rcases h9 with h9 | h9; exact .inl h9.1; exact .inr (by omega))
      exact ⟨.agg #[.int .i64 R.w, .int .i64 R.n, .slice A4 R.all.length c4], rfl, ⟨_, rfl, vl⟩, bw'.1⟩
end Go.Proofs.Ytdahhnefcageeaa

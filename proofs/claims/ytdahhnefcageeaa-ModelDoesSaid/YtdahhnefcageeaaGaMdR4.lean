/-
  Merged: MdlRefS, MdlRefOf.
-/
import Derived.Test.YtdahhnefcageeaaMdlRefV
import Derived.Test.YtdahhnefcageeaaMdlSame
namespace Go.Proofs.Ytdahhnefcageeaa
open Go.RowKit Go.Proofs.Mdl
set_option linter.unusedVariables false
set_option linter.unusedSimpArgs false
theorem ver_same {V U : Ver} (h1 : V.b = U.b) (h2 : V.p = U.p) (h3 : V.e = U.e) (h4 : V.c = U.c) : V = U := by
  cases V; cases U
  simp only at h1 h2 h3 h4
  simp [h1, h2, h3, h4]
set_option maxRecDepth 100000 in
set_option maxHeartbeats 4000000 in
theorem rsame_any {N N' : Nat → Prop} {w : World} {va vb : Value} {M K : Mod} (h1 : Md N w va M) (h2 : Md N' w vb K) (hl : M.all.length ≤ 1000) (hle : ∀ V ∈ M.all, V.e.length ≤ 1000 ∧ V.c.length ≤ 1000) :
    Calls Try.prog 15 #[va, vb] w fun e w' => e = .returned (.bool (decide (M = K))) ∧ Below w.heap.size w w' := by
  obtain ⟨ua, rfl, hva⟩ := h1
  obtain ⟨ub, rfl, hvb⟩ := h2
  obtain ⟨A1, c1, rfl⟩ := hva.shape
  obtain ⟨A2, c2, rfl⟩ := hvb.shape
  obtain ⟨n1, hn1⟩ : ∃ n, n = M.all.length := ⟨_, rfl⟩
  obtain ⟨n2, hn2⟩ : ∃ n, n = K.all.length := ⟨_, rfl⟩
  have H1 := Lib.hid hn1
  have H2 := Lib.hid hn2
  obtain ⟨w2, g, p, hw, hg, hp, hb2, b1, b2⟩ := two_boxes w 37 37 #[.int .i64 M.w, .int .i64 M.n, .slice A1 M.all.length c1] #[.int .i64 K.w, .int .i64 K.n, .slice A2 K.all.length c2]
  have RA := Lib.hid (hva.below hb2)
  have RB := Lib.hid (hvb.below hb2)
  rw [← hn1] at RA b1 hw hl ⊢
  rw [← hn2] at RB b2 hw ⊢
  have BG := Lib.hid b1
  have BP := Lib.hid b2
  have HB2 := Lib.hid hb2
  have HLE := Lib.hid hle
  have CELL : Hid (∀ W, Below w2.heap.size w2 W → W.cell? ⟨g, 0, none⟩ = some (.int .i64 M.w) ∧ W.cell? ⟨g, 1, none⟩ = some (.int .i64 M.n) ∧ W.cell? ⟨g, 2, none⟩ = some (.slice A1 n1 c1) ∧ W.cell? ⟨p, 0, none⟩ = some (.int .i64 K.w) ∧ W.cell? ⟨p, 1, none⟩ = some (.int .i64 K.n) ∧ W.cell? ⟨p, 2, none⟩ = some (.slice A2 n2 c2)) := Lib.hid (fun W hW => by
    have k1 := BG.out.below hW
    have k2 := BP.out.below hW
    exact ⟨by simpa using k1.cell 0, by simpa using k1.cell 1, by simpa using k1.cell 2, by simpa using k2.cell 0, by simpa using k2.cell 1, by simpa using k2.cell 2⟩)
  obtain ⟨x0, x1, x2, y0, y1, y2⟩ := CELL.out _ (Below.refl _ _)
  obtain ⟨res, hres⟩ : ∃ r, r = decide (M = K) := ⟨_, rfl⟩
  rw [← hres]
  have HR := Lib.hid hres
  clear hva hvb b1 b2 hb2 hle hn1 hn2 hres
  by_cases ha : M.w = K.w
  · have a1 : (M.w == K.w) = true := beq_iff_eq.2 ha
    have a2 : (M.w != K.w) = false := by simp [ha]
    by_cases hb : M.n = K.n
    · have b1 : (M.n == K.n) = true := beq_iff_eq.2 hb
      have b2 : (M.n != K.n) = false := by simp [hb]
      by_cases hc : n1 = n2
      · have e1 : ((n1 : Int) == (n2 : Int)) = true := by rw [hc]; simp
        have e2 : ((n1 : Int) != (n2 : Int)) = false := by rw [hc]; simp
        have LN := Lib.hid hc
        have WN : Hid (M.w = K.w ∧ M.n = K.n) := Lib.hid ⟨ha, hb⟩
        clear ha hb hc
        go_enter Try.func15, Try.ntmps15
        go_upto_region 1 with (fail)
        rw [← hw, ← hp, ← hg]
        clear hw hp hg
        go_upto_region 4 with (fail)
        go_loopw [5, 6, 7] (fun vi _ _ wr => ∃ k : Nat, vi = .int .i64 (k : Int) ∧ k ≤ n1 ∧ Hid (Bl w2.heap.size w2 wr) ∧ Hid (M.all.take k = K.all.take k)) (fun vi _ _ _ => n1 - (intOf vi).toNat)
        case atStart => exact ⟨0, rfl, Nat.zero_le _, Lib.hid (Bl.start w2), Lib.hid (by simp)⟩
        case round =>
          clear x0 x1 x2 y0 y1 y2
          obtain ⟨k, rfl, hk, HB, HT⟩ := hrel
          obtain ⟨x0, x1, x2, y0, y1, y2⟩ := CELL.out _ HB.out.1
          by_cases hlt : k < n1
          · obtain ⟨V, hV⟩ : ∃ x, M.all[k]? = some x := ⟨_, List.getElem?_eq_getElem (by have := H1.out; omega)⟩
            obtain ⟨U, hU⟩ : ∃ y, K.all[k]? = some y := ⟨_, List.getElem?_eq_getElem (by have := H2.out; have := LN.out; omega)⟩
            obtain ⟨b1, o1, c1', ve, vc, he1, hb1, hve, hvc, p0, p1, p2, p3⟩ := (RA.out.below HB.out.1).at_ hV
            obtain ⟨b2, o2, c2', ue, uc, he2, hb2, hue, huc, q0, q1, q2, q3⟩ := (RB.out.below HB.out.1).at_ hU
            rw [← H1.out] at he1
            rw [← H2.out] at he2
            simp only [Value.slice.injEq] at he1 he2
            obtain ⟨rfl, -, rfl⟩ := he1
            obtain ⟨rfl, -, rfl⟩ := he2
            obtain ⟨A3, c3, rfl⟩ := hve.toEs.shape
            obtain ⟨A4, c4, rfl⟩ := hvc.toCs.shape
            obtain ⟨A5, c5, rfl⟩ := hue.toEs.shape
            obtain ⟨A6, c6, rfl⟩ := huc.toCs.shape
            have i1 : (k : Int) < (n1 : Int) := by omega
            have i2 : (k : Int) < (n2 : Int) := by have := LN.out; omega
            have wk : IntKind.i64.wrap ((k : Int) + 1) = (k : Int) + 1 := IntWalk.i64_in _ (by omega)
            have HX := Lib.hid hV
            have HY := Lib.hid hU
            have LEV := Lib.hid (HLE.out V (List.mem_of_getElem? hV))
            have NE : Hid (¬ V = U → ¬ M = K) := Lib.hid (fun hn e => by
              subst e
              rw [HX.out] at HY
              exact hn (Option.some.inj HY.out))
            have SE := Lib.hid (fun W (hW : Below wr.heap.size wr W) => sameE_any (hve.toEs.below hW) (hue.toEs.below hW) LEV.out.1)
            have SC := Lib.hid (fun W (hW : Below wr.heap.size wr W) => sameC_any (hvc.toCs.below hW) (huc.toCs.below hW) LEV.out.2)
            have L1 : b2 < wr.heap.size := hb2
            have L2 : p < wr.heap.size := Nat.lt_of_lt_of_le BP.out.lt HB.out.2
            obtain ⟨w3, gv, pv, hw, hg, hp, hb, k1, k2⟩ := two_boxes wr 74 74 #[.int .i64 V.b, .slice A3 V.e.length c3, .slice A4 V.c.length c4, .int .i64 V.p] #[.int .i64 U.b, .slice A5 U.e.length c5, .slice A6 U.c.length c6, .int .i64 U.p]
            have KV := Lib.hid k1
            have KU := Lib.hid k2
            have HW := Lib.hid hb
            have BW := HB
            have CV : Hid (∀ W, Below wr.heap.size wr W → Below w3.heap.size w3 W → True) := Lib.hid (fun _ _ _ => trivial)
            clear CV hve hvc hue huc hV hU hb k1 k2
            go_upto_region 8 with (fail)
            rw [← hw, ← hp, ← hg]
            clear hw hp hg p0 p1 p2 p3 q0 q1 q2 q3 hb1 hb2 L1 L2 x0 x1 x2 y0 y1 y2
            have CV : Hid (∀ W, Below w3.heap.size w3 W → W.cell? ⟨gv, 0, none⟩ = some (.int .i64 V.b) ∧ W.cell? ⟨gv, 2, none⟩ = some (.slice A4 V.c.length c4) ∧ W.cell? ⟨pv, 2, none⟩ = some (.slice A6 U.c.length c6)) := Lib.hid (fun W hW => ⟨by simpa using (KV.out.below hW).cell 0, by simpa using (KV.out.below hW).cell 2, by simpa using (KU.out.below hW).cell 2⟩)
            have x0 := KV.out.cell 0
            have x1 := KV.out.cell 1
            have x2 := KV.out.cell 2
            have x3 := KV.out.cell 3
            have y0 := KU.out.cell 0
            have y1 := KU.out.cell 1
            have y2 := KU.out.cell 2
            have y3 := KU.out.cell 3
            simp only [List.getElem?_toArray, List.getElem?_cons_succ, List.getElem?_cons_zero] at x0 x1 x2 x3 y0 y1 y2 y3
            have BW3 := Lib.hid (HB.out.call HW.out)
            by_cases e1 : V.b = U.b
            · have d1 : (V.b == U.b) = true := beq_iff_eq.2 e1
              have d2 : (V.b != U.b) = false := by simp [e1]
              by_cases e2 : V.p = U.p
              · have f1 : (V.p == U.p) = true := beq_iff_eq.2 e2
                have f2 : (V.p != U.p) = false := by simp [e2]
                by_cases e3 : V.e = U.e
                · rw [decide_eq_true e3] at SE
                  by_cases e4 : V.c = U.c
                  · rw [decide_eq_true e4] at SC
                    have HT2 : Hid (M.all.take (k + 1) = K.all.take (k + 1)) := Lib.hid (by rw [List.take_add_one, List.take_add_one, HT.out, HX.out, HY.out, ver_same e1 e2 e3 e4])
                    clear e1 e2 e3 e4
                    go_wp2_with (first | (go_at_call 23; refine (SE.out _ HW.out).mono ?_; rintro e w4 ⟨rfl, hb⟩; have B4 := Lib.hid hb; have BW4 := Lib.hid (BW3.out.call hb); have BR4 := Lib.hid (bel_trans' HW.out hb); clear hb; obtain ⟨-, z1, z2⟩ := CV.out _ B4.out) | (go_at_call 24; refine (SC.out _ BR4.out).mono ?_; rintro e w5 ⟨rfl, hb⟩; have BW5 := Lib.hid (BW4.out.call hb); clear hb))
                    exact ⟨⟨k + 1, by go_num, by omega, BW5, HT2⟩, by simp [intOf]; omega⟩
                  · rw [decide_eq_false e4] at SC
                    have NO : Hid (res = false) := Lib.hid (by rw [HR.out]; exact decide_eq_false (NE.out (fun e => e4 (by rw [e]))))
                    clear e1 e2 e3 e4
                    go_wp2_with (first | (go_at_call 23; refine (SE.out _ HW.out).mono ?_; rintro e w4 ⟨rfl, hb⟩; have B4 := Lib.hid hb; have BW4 := Lib.hid (BW3.out.call hb); have BR4 := Lib.hid (bel_trans' HW.out hb); clear hb; obtain ⟨-, z1, z2⟩ := CV.out _ B4.out) | (go_at_call 24; refine (SC.out _ BR4.out).mono ?_; rintro e w5 ⟨rfl, hb⟩; have BW5 := Lib.hid (BW4.out.call hb); clear hb))
                    go_ret
                    exact ⟨retB NO.out.symm, bel_trans' HB2.out BW5.out.1⟩
                · rw [decide_eq_false e3] at SE
                  have NO : Hid (res = false) := Lib.hid (by rw [HR.out]; exact decide_eq_false (NE.out (fun e => e3 (by rw [e]))))
                  clear e1 e2 e3
                  go_wp2_with (first | (go_at_call 23; refine (SE.out _ HW.out).mono ?_; rintro e w4 ⟨rfl, hb⟩; have B4 := Lib.hid hb; have BW4 := Lib.hid (BW3.out.call hb); have BR4 := Lib.hid (bel_trans' HW.out hb); clear hb; obtain ⟨-, z1, z2⟩ := CV.out _ B4.out) | (go_at_call 24; refine (SC.out _ BR4.out).mono ?_; rintro e w5 ⟨rfl, hb⟩; have BW5 := Lib.hid (BW4.out.call hb); clear hb))
                  go_ret
                  exact ⟨retB NO.out.symm, bel_trans' HB2.out BW4.out.1⟩
              · have f1 : (V.p == U.p) = false := beq_eq_false_iff_ne.2 e2
                have f2 : (V.p != U.p) = true := bne_iff_ne.2 e2
                have NO : Hid (res = false) := Lib.hid (by rw [HR.out]; exact decide_eq_false (NE.out (fun e => e2 (by rw [e]))))
                clear e1 e2
                go_wp2_with (first | (go_at_call 23; refine (SE.out _ HW.out).mono ?_; rintro e w4 ⟨rfl, hb⟩; have B4 := Lib.hid hb; have BW4 := Lib.hid (BW3.out.call hb); have BR4 := Lib.hid (bel_trans' HW.out hb); clear hb; obtain ⟨-, z1, z2⟩ := CV.out _ B4.out) | (go_at_call 24; refine (SC.out _ BR4.out).mono ?_; rintro e w5 ⟨rfl, hb⟩; have BW5 := Lib.hid (BW4.out.call hb); clear hb))
                go_ret
                exact ⟨retB NO.out.symm, bel_trans' HB2.out BW3.out.1⟩
            · have d1 : (V.b == U.b) = false := beq_eq_false_iff_ne.2 e1
              have d2 : (V.b != U.b) = true := bne_iff_ne.2 e1
              have NO : Hid (res = false) := Lib.hid (by rw [HR.out]; exact decide_eq_false (NE.out (fun e => e1 (by rw [e]))))
              clear e1
              go_wp2_with (first | (go_at_call 23; refine (SE.out _ HW.out).mono ?_; rintro e w4 ⟨rfl, hb⟩; have B4 := Lib.hid hb; have BW4 := Lib.hid (BW3.out.call hb); have BR4 := Lib.hid (bel_trans' HW.out hb); clear hb; obtain ⟨-, z1, z2⟩ := CV.out _ B4.out) | (go_at_call 24; refine (SC.out _ BR4.out).mono ?_; rintro e w5 ⟨rfl, hb⟩; have BW5 := Lib.hid (BW4.out.call hb); clear hb))
              go_ret
              exact ⟨retB NO.out.symm, bel_trans' HB2.out BW3.out.1⟩
          · obtain rfl : k = n1 := by omega
            have i1 : ¬ (k : Int) < (k : Int) := by omega
            have YES : Hid (res = true) := Lib.hid (by
              rw [HR.out]
              refine decide_eq_true (mod_eq.2 ⟨WN.out, ?_⟩)
              have := HT.out
              rwa [H1.out, List.take_length, ← H1.out, LN.out, H2.out, List.take_length] at this)
            go_wp2_with fail
            go_ret
            exact ⟨retB YES.out.symm, bel_trans' HB2.out HB.out.1⟩
      · have e1 : ((n1 : Int) == (n2 : Int)) = false := by simp; omega
        have e2 : ((n1 : Int) != (n2 : Int)) = true := by simp; omega
        have NO : Hid (res = false) := Lib.hid (by rw [HR.out]; exact decide_eq_false (fun e => hc (by rw [H1.out, H2.out, e])))
        clear ha hb hc
        go_enter Try.func15, Try.ntmps15
        go_upto_region 1 with (fail)
        rw [← hw, ← hp, ← hg]
        clear hw hp hg
        go_wp2_with fail
        go_ret
        exact ⟨retB NO.out.symm, HB2.out⟩
    · have b1 : (M.n == K.n) = false := beq_eq_false_iff_ne.2 hb
      have b2 : (M.n != K.n) = true := bne_iff_ne.2 hb
      have NO : Hid (res = false) := Lib.hid (by rw [HR.out]; exact decide_eq_false (fun e => hb (by rw [e])))
      clear ha hb
      go_enter Try.func15, Try.ntmps15
      go_upto_region 1 with (fail)
      rw [← hw, ← hp, ← hg]
      clear hw hp hg
      go_wp2_with fail
      go_ret
      exact ⟨retB NO.out.symm, HB2.out⟩
  · have a1 : (M.w == K.w) = false := beq_eq_false_iff_ne.2 ha
    have a2 : (M.w != K.w) = true := bne_iff_ne.2 ha
    have NO : Hid (res = false) := Lib.hid (by rw [HR.out]; exact decide_eq_false (fun e => ha (by rw [e])))
    clear ha
    go_enter Try.func15, Try.ntmps15
    go_upto_region 1 with (fail)
    rw [← hw, ← hp, ← hg]
    clear hw hp hg
    go_wp2_with fail
    go_ret
    exact ⟨retB NO.out.symm, HB2.out⟩
end Go.Proofs.Ytdahhnefcageeaa
namespace Go.Proofs.Ytdahhnefcageeaa
open Go.RowKit Go.Proofs.Mdl
set_option linter.unusedVariables false
set_option linter.unusedSimpArgs false
theorem infoOf : (Try.prog.info? 74).map (fun i => (i.zero, i.size, i.bytes)) = some (some (.agg #[.int .i64 0, .slice none 0 0, .slice none 0 0, .int .i64 0]), 4, 64) := by kernel_rfl
set_option maxRecDepth 100000 in
set_option maxHeartbeats 2000000 in
theorem of_any {N : Nat → Prop} {w : World} {v : Value} {M : Mod} (h : Md N w v M) (hl : M.all.length ≤ 1000) :
    Calls Try.prog 14 #[v] w fun e w' => ∃ v', e = .returned v' ∧ Md (fun b => N b ∨ w.heap.size ≤ b) w' v' M ∧ Below w.heap.size w w' := by
  obtain ⟨u, rfl, hv⟩ := h
  obtain ⟨A, c, rfl⟩ := hv.shape
  obtain ⟨z, hz⟩ : ∃ z, z = M.all.length := ⟨_, rfl⟩
  have HZ := Lib.hid hz
  obtain ⟨w3, g, p, s, hw, hg, hp, hs, hb3, b1, b2, b3⟩ := three_boxes w 24 37 37 #[.int .i64 M.w, .int .i64 M.n, .slice A M.all.length c] #[.int .i64 0, .int .i64 0, .slice none 0 0] #[.int .i64 M.w, .int .i64 M.n, .slice none 0 0]
  have VL := Lib.hid ((hv.mono (N' := fun b => N b ∧ b < w.heap.size) (fun b h1 h2 => ⟨h1, h2⟩)).below hb3)
  rw [← hz] at VL b1 hw ⊢
  have BG := Lib.hid b1
  have BP := Lib.hid b2
  have BS := Lib.hid b3
  have HB3 := Lib.hid hb3
  have GW : Hid (w.heap.size ≤ g) := Lib.hid (by omega)
  have PW : Hid (w.heap.size ≤ p) := Lib.hid (by omega)
  have SW : Hid (w.heap.size ≤ s) := Lib.hid (by omega)
  have NEQ : Hid (¬ g = p ∧ ¬ g = s ∧ ¬ p = s) := Lib.hid (by omega)
  have z1 : z ≤ 1000 := by omega
  have wx : World := w
  clear wx hv b1 b2 b3 hb3 hz hl
  go_enter Try.func14, Try.ntmps14
  go_upto_region 2 with (fail)
  rw [← hw, ← hs, ← hp, ← hg]
  clear hw hp hg hs
  go_upto_region 3 with (fail)
  go_loopw [4, 5] (fun vi _ wr => ∃ (k : Nat) (rs : List Raw) (A6 : Option Addr) (c6 : Nat), vi = .int .i64 (k : Int) ∧ k ≤ z ∧ Hid (rs.length = k) ∧ Hid (Blk wr s 37 #[.int .i64 M.w, .int .i64 M.n, .slice A6 k c6]) ∧ Hid (wr.ownsRow w3.heap.size 74 4 (.slice A6 k c6) k (flatR rs)) ∧ Hid (Rv (fun b => N b ∧ b < w.heap.size) wr rs (M.all.take k)) ∧ Hid (Far (fun i => i = s) w3 wr)) (fun vi _ _ => z - (intOf vi).toNat)
  case atStart => exact ⟨0, [], none, 0, rfl, Nat.zero_le _, Lib.hid rfl, BS, Lib.hid ⟨rfl, .inl ⟨rfl, rfl⟩⟩, Lib.hid (by simpa using Rv.nil), Lib.hid (Far.refl _ _)⟩
  case round =>
    obtain ⟨k, rs, A6, c6, rfl, hk, RL, BSr, OW, RV, FR⟩ := hrel
    have wk : IntKind.i64.wrap ((k : Int) + 1) = (k : Int) + 1 := IntWalk.i64_in _ (by omega)
    have BGr := Lib.hid (BG.out.far FR.out NEQ.out.2.1)
    have SZ : Hid (w3.heap.size ≤ wr.heap.size) := Lib.hid FR.out.size
    have q2 := BGr.out.cell 2
    simp only [List.getElem?_toArray, List.getElem?_cons_succ, List.getElem?_cons_zero] at q2
    by_cases hlt : k < z
    · obtain ⟨V, hV⟩ : ∃ V, M.all[k]? = some V := ⟨_, List.getElem?_eq_getElem (by rw [← HZ.out]; exact hlt)⟩
      obtain ⟨b, o, c', ve, vc, he, hbl, hve, hvc, d0, d1, d2, d3⟩ := (VL.out.far FR.out (fun b hb _ e => by have e1 : b = s := e; have := hb.2; have := SW.out; omega)).at_ hV
      obtain ⟨Ae, ce, rfl⟩ := hve.toEs.shape
      obtain ⟨Ac, cc, rfl⟩ := hvc.toCs.shape
      rw [← HZ.out] at he
      simp only [Value.slice.injEq] at he
      obtain ⟨rfl, -, rfl⟩ := he
      have i1 : (k : Int) < (z : Int) := by omega
      have TK : Hid (M.all.take (k + 1) = M.all.take k ++ [V]) := Lib.hid (by rw [List.take_add_one, hV]; rfl)
      have SH := Lib.hid (show Sh (fun b => N b ∧ b < w.heap.size) wr ⟨V.b, .slice Ae V.e.length ce, .slice Ac V.c.length cc, V.p⟩ V from ⟨rfl, rfl, hve, hvc⟩)
      have SL : Hid (s < w3.heap.size ∧ g < w3.heap.size) := Lib.hid ⟨BS.out.lt, BG.out.lt⟩
      clear hV hve hvc hbl
      go_upto_region 6 with (fail)
      have BV := Lib.hid (Blk.new wr 62 #[.int .i64 V.b, .slice Ae V.e.length ce, .slice Ac V.c.length cc, .int .i64 V.p])
      have BS6 := Lib.hid (BSr.out.alloc (.cells #[.int .i64 V.b, .slice Ae V.e.length ce, .slice Ac V.c.length cc, .int .i64 V.p] 62))
      have OW6 := Lib.hid (World.ownsRow.alloc OW.out (.cells #[.int .i64 V.b, .slice Ae V.e.length ce, .slice Ac V.c.length cc, .int .i64 V.p] 62))
      have bl6 : Below wr.heap.size wr (wr.alloc (.cells #[.int .i64 V.b, .slice Ae V.e.length ce, .slice Ac V.c.length cc, .int .i64 V.p] 62)) := (Below.refl _ _).alloc (Nat.le_refl _) _
      have RV6 := Lib.hid (RV.out.below bl6)
      have SH6 := Lib.hid (SH.out.below bl6)
      have F6 := Lib.hid (FR.out.alloc (.cells #[.int .i64 V.b, .slice Ae V.e.length ce, .slice Ac V.c.length cc, .int .i64 V.p] 62))
      clear bl6 d0 d1 d2 d3 q2 BGr
      have Z6 : Hid (wr.heap.size ≤ (wr.alloc (.cells #[.int .i64 V.b, .slice Ae V.e.length ce, .slice Ac V.c.length cc, .int .i64 V.p] 62)).heap.size) := Lib.hid (by simp)
      generalize wr.alloc (.cells #[.int .i64 V.b, .slice Ae V.e.length ce, .slice Ac V.c.length cc, .int .i64 V.p] 62) = w6 at *
      obtain ⟨pv, hpv⟩ : ∃ pv, pv = wr.heap.size := ⟨_, rfl⟩
      rw [← hpv] at BV ⊢
      clear hpv
      have x0 := BV.out.cell 0
      have x1 := BV.out.cell 1
      have x2 := BV.out.cell 2
      have x3 := BV.out.cell 3
      have s2 := BS6.out.cell 2
      simp only [List.getElem?_toArray, List.getElem?_cons_succ, List.getElem?_cons_zero] at x0 x1 x2 x3 s2
      have BSa := Lib.hid (BS6.out.alloc (.cells #[.int .i64 V.b, .slice Ae V.e.length ce, .slice Ac V.c.length cc, .int .i64 V.p] 74))
      have NC := Lib.hid (new_cells w6 74 [.int .i64 V.b, .slice Ae V.e.length ce, .slice Ac V.c.length cc, .int .i64 V.p])
      have N1 : Hid (k + 1 ≤ 1000000) := Lib.hid (by omega)
      have OM : Hid (∀ y ∈ ([.int .i64 V.b, .slice Ae V.e.length ce, .slice Ac V.c.length cc, .int .i64 V.p] : List Value), y.oneCell' = true) := Lib.hid (by intro y hy; simp only [List.mem_cons, List.not_mem_nil, or_false] at hy; rcases hy with rfl | rfl | rfl | rfl <;> rfl)
      have NB : Hid (w3.heap.size ≤ (w6.alloc (.cells #[.int .i64 V.b, .slice Ae V.e.length ce, .slice Ac V.c.length cc, .int .i64 V.p] 74)).heap.size) := Lib.hid (by rw [World.size_alloc]; have := SZ.out; have := Z6.out; omega)
      go_wp2_with (at_builtin; refine wpList_append_own (k := 4) (T := 74) (S := 35) elemRV infoOf rfl (by decide) (by decide) rfl _ _ rfl rfl w3.heap.size _ _ (flatR rs) w6.heap.size 0 1 1 [.int .i64 V.b, .slice Ae V.e.length ce, .slice Ac V.c.length cc, .int .i64 V.p] rfl rfl (World.ownsRow.alloc OW6.out _) rfl NC.out OM.out N1.out NB.out ?_; intro v5 wb own5 gr5 _; obtain ⟨A7, c7, hv7⟩ := own_shape own5; subst hv7; have OE := Lib.hid own5; have FB := Lib.hid ((F6.out.alloc (.cells #[.int .i64 V.b, .slice Ae V.e.length ce, .slice Ac V.c.length cc, .int .i64 V.p] 74)).grown gr5 (fun j hj e => by have h9 := (OW6.out.lt j e).1; omega)); have BSb := Lib.hid (BSa.out.grown gr5 (fun e => by have h9 := (OW6.out.lt s e).1; have := SL.out.1; omega)); have LB := Lib.hid (show Far (fun i => (Value.slice A6 k c6).ownBlock = some i) w6 wb from ((Far.refl _ w6).alloc (.cells #[.int .i64 V.b, .slice Ae V.e.length ce, .slice Ac V.c.length cc, .int .i64 V.p] 74)).grown gr5 (fun j _ e => e)); have t2 := BSb.out.cell 2; have ft2 := BSb.out.frozen 2; (simp only [List.getElem?_toArray, List.getElem?_cons_succ, List.getElem?_cons_zero] at t2); clear own5 gr5)
      have b8 := BSb.out.set 2 (.slice A7 (k + 1) c7)
      simp only [List.setIfInBounds_toArray, List.set_cons_succ, List.set_cons_zero] at b8
      have f8 := (Far.refl (fun i => i = s) wb).setCell (p := ⟨s, 2, none⟩) (fun _ => rfl) (.slice A7 (k + 1) c7)
      refine ⟨⟨k + 1, rs ++ [⟨V.b, .slice Ae V.e.length ce, .slice Ac V.c.length cc, V.p⟩], A7, c7, by go_num, by omega, Lib.hid (by rw [List.length_append, RL.out]; rfl), Lib.hid b8, Lib.hid ?_, Lib.hid ?_, Lib.hid (FB.out.trans f8 (fun _ _ h => h))⟩, by simp [intOf]; omega⟩
      · rw [flatR_append]
        exact own_far OE.out f8 (fun b hb e => by have e1 : b = s := e; have h9 := (OE.out.lt b hb).1; have := SL.out.1; omega)
      · rw [TK.out]
        have hN : ∀ b, (N b ∧ b < w.heap.size) → b < w6.heap.size → ¬ (Value.slice A6 k c6).ownBlock = some b := fun b hb _ e => by have h9 := (OW6.out.lt b e).1; have := hb.2; have := HB3.out.size; omega
        have hS : ∀ b, (N b ∧ b < w.heap.size) → b < wb.heap.size → ¬ b = s := fun b hb _ e => by have := hb.2; have := SW.out; omega
        exact ((RV6.out.far LB.out hN).far f8 hS).append (Rv.single ((SH6.out.far LB.out hN).far f8 hS))
    · obtain rfl : k = z := by omega
      have i1 : ¬ (k : Int) < (k : Int) := by omega
      have TK : Hid (M.all.take k = M.all) := Lib.hid (by rw [HZ.out, List.take_length])
      have BPr := Lib.hid (BP.out.far FR.out NEQ.out.2.2)
      have BW := Lib.hid (Far.bl ((Bl.start w).call HB3.out) FR.out (fun i e => by rw [e]; exact SW.out))
      have q0 := BSr.out.cell 0
      have q1 := BSr.out.cell 1
      have r2 := BSr.out.cell 2
      have p0 := BPr.out.cell 0
      have p1 := BPr.out.cell 1
      have p2 := BPr.out.cell 2
      have e0 := BPr.out.frozen 0
      have e1 := BPr.out.frozen 1
      have e2 := BPr.out.frozen 2
      simp only [List.getElem?_toArray, List.getElem?_cons_succ, List.getElem?_cons_zero] at q0 q1 r2 p0 p1 p2
      go_wp2_with fail
      obtain ⟨W', hW', bw', ff', bp'⟩ := put3 BPr.out BW.out PW.out (.int .i64 M.w) (.int .i64 M.n) (.slice A6 k c6)
      rw [← hW']
      refine bodyPost_ret (results_r1 rfl _ _ _ rfl bp') rfl ?_
      have P3 := BP.out.lt
      have own9 := own_far OW.out ff' (fun b hb e => by have e1 : b = p := e; have h9 := (OW.out.lt b hb).1; omega)
      have rv9 := RV.out.far ff' (fun b hb _ e => by have e1 : b = p := e; have := PW.out; have := hb.2; omega)
      rw [TK.out] at rv9
      refine ⟨_, rfl, ⟨_, rfl, ?_⟩, bw'.1⟩
      rw [HZ.out] at own9 ⊢
      exact Vl.of_own own9 (rv9.mono (fun b hb _ => .inl hb.1)) (fun b hb => .inr (Nat.le_trans HB3.out.size hb))
end Go.Proofs.Ytdahhnefcageeaa

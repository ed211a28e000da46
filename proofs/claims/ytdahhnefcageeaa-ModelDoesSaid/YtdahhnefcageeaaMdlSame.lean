/-
  Package model: Same.
-/
import Derived.Test.YtdahhnefcageeaaMdlEq
import Derived.Test.YtdahhnefcageeaaMdlKeep
namespace Go.Proofs.Ytdahhnefcageeaa
open Go.RowKit Go.Proofs.Mdl
set_option linter.unusedVariables false
set_option linter.unusedSimpArgs false
theorem ver_eq {V U : Ver} : V = U ↔ ((V.b = U.b ∧ V.p = U.p) ∧ V.e = U.e) ∧ V.c = U.c := by
  constructor
  · rintro rfl; exact ⟨⟨⟨rfl, rfl⟩, rfl⟩, rfl⟩
  · rintro ⟨⟨⟨h1, h2⟩, h3⟩, h4⟩
    cases V; cases U
    simp only at h1 h2 h3 h4
    simp [h1, h2, h3, h4]
set_option maxRecDepth 100000 in
set_option maxHeartbeats 4000000 in
theorem verSame_any {w : World} {V U : Ver} {ve vc ue uc : Value} (h1 : Es w ve V.e) (h2 : Cs w vc V.c) (k1 : Es w ue U.e) (k2 : Cs w uc U.c) (hl : V.e.length ≤ 1000 ∧ V.c.length ≤ 1000) :
    Calls Try.prog 46 #[.agg #[.int .i64 V.b, ve, vc, .int .i64 V.p], .agg #[.int .i64 U.b, ue, uc, .int .i64 U.p]] w fun e w' => e = .returned (.bool (decide (V = U))) ∧ Below w.heap.size w w' := by
  obtain ⟨w2, g, p, hw, hg, hp, hb2, b1, b2⟩ := two_boxes w 62 62 #[.int .i64 V.b, ve, vc, .int .i64 V.p] #[.int .i64 U.b, ue, uc, .int .i64 U.p]
  have EQ := Lib.hid (fun W (hW : Below w.heap.size w W) => equalE_any (h1.below hW) (k1.below hW) hl.1)
  have CQ := Lib.hid (fun W (hW : Below w.heap.size w W) => equalC_any (h2.below hW) (k2.below hW) hl.2)
  obtain ⟨A1, c1, rfl⟩ := h1.shape
  obtain ⟨A2, c2, rfl⟩ := h2.shape
  obtain ⟨A3, c3, rfl⟩ := k1.shape
  obtain ⟨A4, c4, rfl⟩ := k2.shape
  have HB2 := Lib.hid hb2
  have B1 := Lib.hid b1
  have B2 := Lib.hid b2
  have x0 := b1.cell 0
  have x1 := b1.cell 1
  have x2 := b1.cell 2
  have x3 := b1.cell 3
  have y0 := b2.cell 0
  have y1 := b2.cell 1
  have y2 := b2.cell 2
  have y3 := b2.cell 3
  simp only [List.getElem?_toArray, List.getElem?_cons_succ, List.getElem?_cons_zero] at x0 x1 x2 x3 y0 y1 y2 y3
  obtain ⟨be, hbe⟩ : ∃ be, be = decide (V.e = U.e) := ⟨_, rfl⟩
  obtain ⟨bc, hbc⟩ : ∃ bc, bc = decide (V.c = U.c) := ⟨_, rfl⟩
  rw [← hbe] at EQ
  rw [← hbc] at CQ
  have HBE := Lib.hid hbe
  have HBC := Lib.hid hbc
  have VE : Hid (decide (V = U) = (((decide (V.b = U.b) && decide (V.p = U.p)) && be) && bc)) := Lib.hid (by
    rw [hbe, hbc, ← Bool.decide_and, ← Bool.decide_and, ← Bool.decide_and]
    exact decide_eq_decide.2 ver_eq)
  rw [VE.out]
  clear h1 h2 k1 k2 b1 b2 hb2 hbe hbc
  obtain ⟨bb, hbb⟩ : ∃ bb, (V.b == U.b) = bb := ⟨_, rfl⟩
  obtain ⟨bp, hbp⟩ : ∃ bp, (V.p == U.p) = bp := ⟨_, rfl⟩
  have eb : decide (V.b = U.b) = bb := by rw [← hbb]; by_cases h : V.b = U.b <;> simp [h]
  have ep : decide (V.p = U.p) = bp := by rw [← hbp]; by_cases h : V.p = U.p <;> simp [h]
  rw [eb, ep]
  clear eb ep VE
  go_enter Try.func46, Try.ntmps46
  go_upto_region 1 with (fail)
  rw [← hw, ← hp, ← hg]
  clear hw hp hg
  cases bb with
  | false =>
    go_wp2_with fail
    go_ret
    exact ⟨rfl, HB2.out⟩
  | true =>
    cases bp with
    | false =>
      go_wp2_with fail
      go_ret
      exact ⟨rfl, HB2.out⟩
    | true =>
      cases be with
      | false =>
        go_wp2_with (go_at_call 47; refine (EQ.out _ HB2.out).mono ?_; rintro e w3 ⟨rfl, hb⟩; have HB3 := Lib.hid (HB2.out.trans (Below.mono hb HB2.out.size)); clear hb)
        go_ret
        exact ⟨rfl, HB3.out⟩
      | true =>
        go_wp2_with (first
          | (go_at_call 47; refine (EQ.out _ HB2.out).mono ?_; rintro e w3 ⟨rfl, hb⟩; have HB3 := Lib.hid (HB2.out.trans (Below.mono hb HB2.out.size)); have z2 := (B1.out.below hb).cell 2; have t2 := (B2.out.below hb).cell 2; simp only [List.getElem?_toArray, List.getElem?_cons_succ, List.getElem?_cons_zero] at z2 t2; clear hb)
          | (go_at_call 48; refine (CQ.out _ HB3.out).mono ?_; rintro e w4 ⟨rfl, hb⟩; have HB4 := Lib.hid (HB3.out.trans (Below.mono hb HB3.out.size)); clear hb))
        go_ret
        exact ⟨rfl, HB4.out⟩
set_option maxRecDepth 100000 in
set_option maxHeartbeats 4000000 in
theorem eqVers_any {N N' : Nat → Prop} {w : World} {va vb : Value} {L K : List Ver} (h1 : Vl N w va L) (h2 : Vl N' w vb K) (hl : L.length ≤ 1000) (hle : ∀ V ∈ L, V.e.length ≤ 1000 ∧ V.c.length ≤ 1000) :
    Calls Try.prog 45 #[va, vb, .func (.func 46) #[] #[]] w fun e w' => e = .returned (.bool (decide (L = K))) ∧ Below w.heap.size w w' := by
  have RA := Lib.hid h1
  have RB := Lib.hid h2
  obtain ⟨A1, c1, rfl⟩ := h1.shape
  obtain ⟨A2, c2, rfl⟩ := h2.shape
  have eg : ∀ args w, (callFunc 46 args).run Try.prog w = .ok (.enter 46 args) w := enters_of Try.func46 (by kernel_rfl) rfl
  have HLE := Lib.hid hle
  clear h1 h2 hle
  by_cases hlen : L.length = K.length
  · have q0 : ((L.length : Int) != (K.length : Int)) = false := by rw [hlen]; simp
    have HLN := Lib.hid hlen
    clear hlen
    go_enter Try.func45, Try.ntmps45
    go_wp2_with fail
    clear q0
    go_loopw [17] (fun vi wr => ∃ k : Nat, vi = .int .i64 (k : Int) ∧ k ≤ L.length ∧ Hid (Bl w.heap.size w wr) ∧ Hid (L.take k = K.take k)) (fun vi _ => L.length - (intOf vi).toNat)
    case atStart => exact ⟨0, rfl, Nat.zero_le _, Lib.hid (Bl.start w), Lib.hid (by simp)⟩
    case round =>
      obtain ⟨k, rfl, hk, HB, HT⟩ := hrel
      by_cases hlt : k < L.length
      · obtain ⟨V, hV⟩ : ∃ x, L[k]? = some x := ⟨_, List.getElem?_eq_getElem hlt⟩
        obtain ⟨U, hU⟩ : ∃ y, K[k]? = some y := ⟨_, List.getElem?_eq_getElem (by have := HLN.out; omega)⟩
        obtain ⟨b1, o1, c1', ve, vc, he1, hb1, hve, hvc, p0, p1, p2, p3⟩ := (RA.out.below HB.out.1).at_ hV
        obtain ⟨b2, o2, c2', ue, uc, he2, hb2, hue, huc, q0, q1, q2, q3⟩ := (RB.out.below HB.out.1).at_ hU
        simp only [Value.slice.injEq] at he1 he2
        obtain ⟨rfl, -, -⟩ := he1
        obtain ⟨rfl, -, -⟩ := he2
        obtain ⟨A3, c3, rfl⟩ := hve.toEs.shape
        obtain ⟨A4, c4, rfl⟩ := hvc.toCs.shape
        obtain ⟨A5, c5, rfl⟩ := hue.toEs.shape
        obtain ⟨A6, c6, rfl⟩ := huc.toCs.shape
        have i1 : (k : Int) < (L.length : Int) := by omega
        have i2 : (k : Int) < (K.length : Int) := by have := HLN.out; omega
        have wk : IntKind.i64.wrap ((k : Int) + 1) = (k : Int) + 1 := IntWalk.i64_in _ (by omega)
        have HX := Lib.hid hV
        have HY := Lib.hid hU
        have SQ := Lib.hid (fun W (hW : Below wr.heap.size wr W) => verSame_any (hve.toEs.below hW) (hvc.toCs.below hW) (hue.toEs.below hW) (huc.toCs.below hW) (HLE.out V (List.mem_of_getElem? hV)))
        have P1 := Lib.hid hb1
        have P2 := Lib.hid hb2
        clear hve hvc hue huc hV hU
        obtain ⟨w2, g, p, hw, hg, hp, hb, k1, k2⟩ := two_boxes wr 62 62 #[.int .i64 V.b, .slice A3 V.e.length c3, .slice A4 V.c.length c4, .int .i64 V.p] #[.int .i64 U.b, .slice A5 U.e.length c5, .slice A6 U.c.length c6, .int .i64 U.p]
        obtain ⟨bq, hbq⟩ : ∃ bq, bq = decide (V = U) := ⟨_, rfl⟩
        rw [← hbq] at SQ
        have QE := Lib.hid hbq
        have HW := Lib.hid hb
        have BW := Lib.hid (HB.out.call hb)
        have x0 := k1.cell 0
        have x1 := k1.cell 1
        have x2 := k1.cell 2
        have x3 := k1.cell 3
        have y0 := k2.cell 0
        have y1 := k2.cell 1
        have y2 := k2.cell 2
        have y3 := k2.cell 3
        simp only [List.getElem?_toArray, List.getElem?_cons_succ, List.getElem?_cons_zero] at x0 x1 x2 x3 y0 y1 y2 y3
        clear hbq hb k1 k2
        have L1 : b2 < wr.heap.size := hb2
        go_upto_region 7 with (fail)
        rw [← hw, ← hp, ← hg]
        clear hw hp hg p0 p1 p2 p3 q0 q1 q2 q3 hb1 hb2 L1
        cases bq with
        | true =>
          go_wp2_with (go_at_fn 46; refine (SQ.out _ HW.out).mono ?_; rintro e w3 ⟨rfl, hb⟩; have HB3 := Lib.hid (BW.out.call hb); clear hb)
          have hVU : V = U := by simpa using QE.out.symm
          refine ⟨⟨k + 1, rfl, hlt, HB3, Lib.hid ?_⟩, by simp [intOf]; omega⟩
          rw [List.take_add_one, List.take_add_one, HT.out, HX.out, HY.out, hVU]
        | false =>
          go_wp2_with (go_at_fn 46; refine (SQ.out _ HW.out).mono ?_; rintro e w3 ⟨rfl, hb⟩; have HB3 := Lib.hid (BW.out.call hb); clear hb)
          go_ret
          have hVU : ¬ V = U := by simpa using QE.out.symm
          refine ⟨retB (Eq.symm (decide_eq_false (fun e => hVU ?_))), HB3.out.1⟩
          have := HX.out
          rw [e, HY.out] at this
          exact (Option.some.inj this).symm
      · obtain rfl : k = L.length := by omega
        go_wp2_with fail
        go_ret
        refine ⟨retB (Eq.symm (decide_eq_true ?_)), HB.out.1⟩
        have := HT.out
        rwa [List.take_length, HLN.out, List.take_length] at this
  · go_enter Try.func45, Try.ntmps45
    have q0 : ((L.length : Int) != (K.length : Int)) = true := by simp; omega
    go_wp2_with fail
    go_ret
    exact ⟨retB (Eq.symm (decide_eq_false (fun e => hlen (by rw [e])))), Below.refl _ _⟩
theorem mod_eq {M K : Mod} : M = K ↔ (M.w = K.w ∧ M.n = K.n) ∧ M.all = K.all := by
  constructor
  · rintro rfl; exact ⟨⟨rfl, rfl⟩, rfl⟩
  · rintro ⟨⟨h1, h2⟩, h3⟩
    cases M; cases K
    simp only at h1 h2 h3
    simp [h1, h2, h3]
set_option maxRecDepth 100000 in
set_option maxHeartbeats 4000000 in
theorem same_any {N N' : Nat → Prop} {w : World} {va vb : Value} {M K : Mod} (h1 : Md N w va M) (h2 : Md N' w vb K) (hl : M.all.length ≤ 1000) (hle : ∀ V ∈ M.all, V.e.length ≤ 1000 ∧ V.c.length ≤ 1000) :
    Calls Try.prog 22 #[va, vb] w fun e w' => e = .returned (.bool (decide (M = K))) ∧ Below w.heap.size w w' := by
  obtain ⟨ua, rfl, hva⟩ := h1
  obtain ⟨ub, rfl, hvb⟩ := h2
  have EQ := Lib.hid (fun W (hW : Below w.heap.size w W) => eqVers_any (hva.below hW) (hvb.below hW) hl hle)
  obtain ⟨A1, c1, rfl⟩ := hva.shape
  obtain ⟨A2, c2, rfl⟩ := hvb.shape
  obtain ⟨w2, g, p, hw, hg, hp, hb2, b1, b2⟩ := two_boxes w 24 24 #[.int .i64 M.w, .int .i64 M.n, .slice A1 M.all.length c1] #[.int .i64 K.w, .int .i64 K.n, .slice A2 K.all.length c2]
  have HB2 := Lib.hid hb2
  have x0 := b1.cell 0
  have x1 := b1.cell 1
  have x2 := b1.cell 2
  have y0 := b2.cell 0
  have y1 := b2.cell 1
  have y2 := b2.cell 2
  simp only [List.getElem?_toArray, List.getElem?_cons_succ, List.getElem?_cons_zero] at x0 x1 x2 y0 y1 y2
  obtain ⟨ba, hba⟩ : ∃ ba, ba = decide (M.all = K.all) := ⟨_, rfl⟩
  rw [← hba] at EQ
  have VE : Hid (decide (M = K) = ((decide (M.w = K.w) && decide (M.n = K.n)) && ba)) := Lib.hid (by
    rw [hba, ← Bool.decide_and, ← Bool.decide_and]
    exact decide_eq_decide.2 mod_eq)
  rw [VE.out]
  clear hva hvb b1 b2 hb2 hba VE
  obtain ⟨bb, hbb⟩ : ∃ bb, (M.w == K.w) = bb := ⟨_, rfl⟩
  obtain ⟨bp, hbp⟩ : ∃ bp, (M.n == K.n) = bp := ⟨_, rfl⟩
  have eb : decide (M.w = K.w) = bb := by rw [← hbb]; by_cases h : M.w = K.w <;> simp [h]
  have ep : decide (M.n = K.n) = bp := by rw [← hbp]; by_cases h : M.n = K.n <;> simp [h]
  rw [eb, ep]
  clear eb ep
  go_enter Try.func22, Try.ntmps22
  go_upto_region 1 with (fail)
  rw [← hw, ← hp, ← hg]
  clear hw hp hg
  cases bb with
  | false =>
    go_wp2_with fail
    go_ret
    exact ⟨rfl, HB2.out⟩
  | true =>
    cases bp with
    | false =>
      go_wp2_with fail
      go_ret
      exact ⟨rfl, HB2.out⟩
    | true =>
      go_wp2_with (go_at_call 45; refine (EQ.out _ HB2.out).mono ?_; rintro e w3 ⟨rfl, hb⟩; have HB3 := Lib.hid (HB2.out.trans (Below.mono hb HB2.out.size)); clear hb)
      go_ret
      exact ⟨rfl, HB3.out⟩
end Go.Proofs.Ytdahhnefcageeaa

/-
  Package model: Valid.
-/
import Derived.Test.YtdahhnefcageeaaMdlCopied
namespace Go.Proofs.Mdl
def vgo (M : Mod) : Int → List Ver → Bool
  | a, [] => decide (a = M.n - 1)
  | a, v :: r => decide (a < v.b) && decide (0 ≤ v.p) && decide (v.p ≤ 1048576) && decide (checkN v.e = 0) && keptV M r.isEmpty v && vgo M v.b r
def rightM (M : Mod) : Bool := decide (1 ≤ M.w) && decide (M.w ≤ 8) && decide (1 ≤ M.n) && decide (M.n ≤ 1048576) && decide (0 < M.all.length)
def validM (M : Mod) : Bool := rightM M && vgo M (-1) M.all
theorem rightM_iff {M : Mod} : rightM M = true ↔ 1 ≤ M.w ∧ M.w ≤ 8 ∧ 1 ≤ M.n ∧ M.n ≤ 1048576 ∧ 0 < M.all.length := by
  unfold rightM
  simp only [Bool.and_eq_true, decide_eq_true_eq]
  constructor
  · rintro ⟨⟨⟨⟨h1, h2⟩, h3⟩, h4⟩, h5⟩; exact ⟨h1, h2, h3, h4, h5⟩
  · rintro ⟨h1, h2, h3, h4, h5⟩; exact ⟨⟨⟨⟨h1, h2⟩, h3⟩, h4⟩, h5⟩
def okV (M : Mod) (a : Int) (last : Bool) (v : Ver) : Bool := decide (a < v.b) && decide (0 ≤ v.p) && decide (v.p ≤ 1048576) && decide (checkN v.e = 0) && keptV M last v
theorem okV_iff {M : Mod} {a : Int} {last : Bool} {v : Ver} : okV M a last v = true ↔ a < v.b ∧ 0 ≤ v.p ∧ v.p ≤ 1048576 ∧ checkN v.e = 0 ∧ keptV M last v = true := by
  unfold okV
  simp only [Bool.and_eq_true, decide_eq_true_eq]
  constructor
  · rintro ⟨⟨⟨⟨h1, h2⟩, h3⟩, h4⟩, h5⟩; exact ⟨h1, h2, h3, h4, h5⟩
  · rintro ⟨h1, h2, h3, h4, h5⟩; exact ⟨⟨⟨⟨h1, h2⟩, h3⟩, h4⟩, h5⟩
theorem vgo_cons (M : Mod) (a : Int) (v : Ver) (r : List Ver) : vgo M a (v :: r) = (okV M a r.isEmpty v && vgo M v.b r) := rfl
end Go.Proofs.Mdl
namespace Go.Proofs.Ytdahhnefcageeaa
open Go.RowKit Go.Proofs.Mdl
set_option linter.unusedVariables false
set_option linter.unusedSimpArgs false
theorem empty_last {L : List Ver} {k : Nat} (hk : k < L.length) : (L.drop (k + 1)).isEmpty = decide (k + 1 = L.length) := by
  by_cases h : k + 1 = L.length
  · rw [decide_eq_true h, h, List.drop_length]; rfl
  · rw [decide_eq_false h]
    cases he : L.drop (k + 1) with
    | nil =>
      have := congrArg List.length he
      rw [List.length_drop, List.length_nil] at this
      omega
    | cons _ _ => rfl
set_option maxRecDepth 100000 in
set_option maxHeartbeats 4000000 in
theorem valid_any {N : Nat → Prop} {w : World} {v : Value} {M : Mod} (h : Md N w v M) (hl : M.all.length ≤ 1000) (hle : ∀ V ∈ M.all, V.e.length ≤ 1000) :
    Calls Try.prog 17 #[v] w fun e w' => e = .returned (.bool (validM M)) ∧ Below w.heap.size w w' := by
  obtain ⟨u, rfl, hv⟩ := h
  obtain ⟨A, c, rfl⟩ := hv.shape
  have B1 := Lib.hid (Blk.new w 24 #[.int .i64 M.w, .int .i64 M.n, .slice A M.all.length c])
  have bb : Below w.heap.size w (w.alloc (.cells #[.int .i64 M.w, .int .i64 M.n, .slice A M.all.length c] 24)) := (Below.refl _ _).alloc (Nat.le_refl _) _
  have BB := Lib.hid bb
  have V1 := Lib.hid (hv.below bb)
  cases hR : rightM M with
  | false =>
    have HV : Hid (validM M = false) := Lib.hid (by unfold validM; rw [hR]; rfl)
    rw [HV.out]
    have HN : Hid (¬ (1 ≤ M.w ∧ M.w ≤ 8 ∧ 1 ≤ M.n ∧ M.n ≤ 1048576 ∧ 0 < M.all.length)) := Lib.hid (fun h => by rw [rightM_iff.2 h] at hR; cases hR)
    clear hR hv bb
    by_cases hz : (M.all.length : Int) = 0
    · have hq : ((M.all.length : Int) == 0) = true := beq_iff_eq.2 hz
      clear hz
      go_enter Try.func17, Try.ntmps17
      go_upto_region 3 with (fail)
      all_goals
        go_ret
        exact ⟨rfl, BB.out⟩
    · have hq : ((M.all.length : Int) == 0) = false := beq_eq_false_iff_ne.2 hz
      go_enter Try.func17, Try.ntmps17
      go_upto_region 3 with (fail)
      all_goals
        first
          | (go_ret; exact ⟨rfl, BB.out⟩)
          | (exfalso; have := HN.out; omega)
  | true =>
    have HV : Hid (validM M = vgo M (-1) M.all) := Lib.hid (by unfold validM; rw [hR, Bool.true_and])
    rw [HV.out]
    obtain ⟨r1, r2, r3, r4, r5⟩ := rightM_iff.1 hR
    have hq : ((M.all.length : Int) == 0) = false := beq_eq_false_iff_ne.2 (by omega)
    have g1 : ¬ M.w < 1 := by omega
    have g2 : ¬ M.w > 8 := by omega
    have g3 : ¬ M.n < 1 := by omega
    have g4 : ¬ M.n > 1048576 := by omega
    obtain ⟨z, hz⟩ : ∃ z, z = M.all.length := ⟨_, rfl⟩
    have HZ := Lib.hid hz
    have wn : IntKind.i64.wrap (M.n - 1) = M.n - 1 := IntWalk.i64_in _ (by omega)
    have q1 := B1.out.cell 1
    simp only [List.getElem?_toArray, List.getElem?_cons_succ, List.getElem?_cons_zero] at q1
    have MD := Lib.hid (show Md N (w.alloc (.cells #[.int .i64 M.w, .int .i64 M.n, .slice A M.all.length c] 24)) (.agg #[.int .i64 M.w, .int .i64 M.n, .slice A M.all.length c]) M from ⟨_, rfl, V1.out⟩)
    rw [← hz] at B1 BB V1 q1 hq r5 hl MD ⊢
    clear hR hv bb hz
    go_enter Try.func17, Try.ntmps17
    go_upto_region 4 with (fail)
    have GS := Lib.hid (Nat.lt_of_lt_of_eq (Nat.lt_succ_self w.heap.size) (World.size_alloc w (.cells #[.int .i64 M.w, .int .i64 M.n, .slice A z c] 24)).symm)
    generalize w.alloc (.cells #[.int .i64 M.w, .int .i64 M.n, .slice A z c] 24) = w1 at *
    obtain ⟨g, hg⟩ : ∃ g, g = w.heap.size := ⟨_, rfl⟩
    rw [← hg] at B1 GS q1 ⊢
    clear hg
    have q2 := B1.out.cell 2
    have q0 := B1.out.cell 0
    simp only [List.getElem?_toArray, List.getElem?_cons_succ, List.getElem?_cons_zero] at q0 q2
    go_wp2_with fail
    go_loopw [3, 33] (fun va vi wr => ∃ (k : Nat) (a : Int), va = .int .i64 a ∧ vi = .int .i64 (k : Int) ∧ k ≤ z ∧ Hid (vgo M (-1) M.all = vgo M a (M.all.drop k)) ∧ Hid (Bl w1.heap.size w1 wr)) (fun _ vi _ => z - (intOf vi).toNat)
    case atStart => exact ⟨0, -1, rfl, rfl, Nat.zero_le _, Lib.hid rfl, Lib.hid (Bl.start w1)⟩
    case round =>
      obtain ⟨k, a, rfl, rfl, hk, HG, BW⟩ := hrel
      by_cases hlt : k < z
      · obtain ⟨V, hV⟩ : ∃ V, M.all[k]? = some V := ⟨_, List.getElem?_eq_getElem (by rw [← HZ.out]; exact hlt)⟩
        obtain ⟨b, o, c', ve, vc, hv, hbl, he, hc, d0, d1, d2, d3⟩ := (V1.out.below BW.out.1).at_ hV
        obtain ⟨Ae, ce, rfl⟩ := he.toEs.shape
        obtain ⟨Ac, cc, rfl⟩ := hc.toCs.shape
        simp only [Value.slice.injEq] at hv
        obtain ⟨rfl, -, -⟩ := hv
        have bl5 : Below wr.heap.size wr (wr.alloc (.cells #[.int .i64 V.b, .slice Ae V.e.length ce, .slice Ac V.c.length cc, .int .i64 V.p] 62)) := (Below.refl _ _).alloc (Nat.le_refl _) _
        have B5 := Lib.hid (Blk.new wr 62 #[.int .i64 V.b, .slice Ae V.e.length ce, .slice Ac V.c.length cc, .int .i64 V.p])
        have BW5 := Lib.hid (BW.out.call bl5)
        have CK := Lib.hid (fun W (hW : Below wr.heap.size wr W) => check_any (he.toEs.below hW) (hle V (List.mem_of_getElem? hV)))
        have IK := Lib.hid (fun W (hW : Below w1.heap.size w1 W) => isKept_any (MD.out.below hW) hV r1 r2 r3 r4 (Nat.le_trans (Nat.le_of_eq HZ.out.symm) hl))
        have STEP : Hid (vgo M a (M.all.drop k) = (okV M a (decide (k + 1 = M.all.length)) V && vgo M V.b (M.all.drop (k + 1)))) := Lib.hid (by rw [drop_cons hV, vgo_cons, empty_last (by rw [← HZ.out]; exact hlt)])
        have i1 : (k : Int) < (z : Int) := by omega
        have wk : IntKind.i64.wrap ((k : Int) + 1) = (k : Int) + 1 := IntWalk.i64_in _ (by omega)
        obtain ⟨kv, hkv⟩ : ∃ kv, kv = keptV M (decide (k + 1 = M.all.length)) V := ⟨_, rfl⟩
        rw [← hkv] at IK
        have KV := Lib.hid hkv
        obtain ⟨cn, hcn⟩ : ∃ cn, cn = checkN V.e := ⟨_, rfl⟩
        rw [← hcn] at CK
        have CN := Lib.hid hcn
        clear hkv hcn he hc hV
        go_upto_region 7 with (fail)
        have F5 := Lib.hid bl5
        clear d0 d1 d2 d3 hbl bl5
        have L5 := Lib.hid (Nat.lt_of_lt_of_eq (Nat.lt_succ_self wr.heap.size) (World.size_alloc wr (.cells #[.int .i64 V.b, .slice Ae V.e.length ce, .slice Ac V.c.length cc, .int .i64 V.p] 62)).symm)
        generalize wr.alloc (.cells #[.int .i64 V.b, .slice Ae V.e.length ce, .slice Ac V.c.length cc, .int .i64 V.p] 62) = w5 at *
        generalize hg5 : wr.heap.size = g5 at *
        have e0 := B5.out.cell 0
        have e1 := B5.out.cell 1
        have e3 := B5.out.cell 3
        simp only [List.getElem?_toArray, List.getElem?_cons_succ, List.getElem?_cons_zero] at e0 e1 e3
        have BL5 : Hid (Below w1.heap.size w1 w5) := Lib.hid BW5.out.1
        have m0 := (BL5.out.cell (p := ⟨g, 0, none⟩) GS.out).trans q0
        have m1 := (BL5.out.cell (p := ⟨g, 1, none⟩) GS.out).trans q1
        have m2 := (BL5.out.cell (p := ⟨g, 2, none⟩) GS.out).trans q2
        go_wp2_with (first
          | (go_at_call 38; refine (CK.out _ F5.out).mono ?_; rintro e w6 ⟨rfl, hb⟩; have HB6 := Lib.hid hb; have x0 := (hb.cell (p := ⟨g5, 0, none⟩) L5.out).trans e0; have y0 := (hb.cell (p := ⟨g, 0, none⟩) (Nat.lt_of_lt_of_le GS.out BL5.out.size)).trans m0; have y1 := (hb.cell (p := ⟨g, 1, none⟩) (Nat.lt_of_lt_of_le GS.out BL5.out.size)).trans m1; have y2 := (hb.cell (p := ⟨g, 2, none⟩) (Nat.lt_of_lt_of_le GS.out BL5.out.size)).trans m2; have BW6 := Lib.hid (BW5.out.call hb); clear hb)
          | (go_at_call 39; refine (IK.out _ BW6.out.1).mono ?_; rintro e w7 ⟨rfl, hb⟩; have x1 := (hb.cell (p := ⟨g5, 0, none⟩) (Nat.lt_of_lt_of_le L5.out HB6.out.size)).trans x0; have BW7 := Lib.hid (BW6.out.call hb); clear hb))
        case roundEnd =>
          have KT : kv = true := by cases kv <;> simp_all
          have OK : okV M a (decide (k + 1 = M.all.length)) V = true := okV_iff.2 ⟨by omega, by omega, by omega, by rw [← CN.out]; omega, by rw [← KV.out]; exact KT⟩
          refine ⟨⟨k + 1, V.b, rfl, rfl, hlt, Lib.hid ?_, BW7⟩, by simp [intOf]; omega⟩
          rw [HG.out, STEP.out, OK, Bool.true_and]
        all_goals
          have NO : okV M a (decide (k + 1 = M.all.length)) V = false := by
            rw [Bool.eq_false_iff]
            intro h
            obtain ⟨o1, o2, o3, o4, o5⟩ := okV_iff.1 h
            rw [← CN.out] at o4
            rw [← KV.out] at o5
            first | omega | (subst o5; simp at *; omega)
          go_ret
          refine ⟨by rw [HG.out, STEP.out, NO]; rfl, BB.out.trans (Below.mono (B := w1.heap.size) ?_ BB.out.size)⟩
          first | exact BW7.out.1 | exact BW6.out.1 | exact BW5.out.1
      · have i1 : ¬ (k : Int) < (z : Int) := by omega
        obtain rfl : k = z := by omega
        have m1 := (BW.out.1.cell (p := ⟨g, 1, none⟩) GS.out).trans q1
        go_wp2_with fail
        go_ret
        refine ⟨?_, BB.out.trans (Below.mono (B := w1.heap.size) BW.out.1 BB.out.size)⟩
        rw [HG.out, HZ.out, List.drop_length]
        first | rfl | (simp [vgo]; done)
end Go.Proofs.Ytdahhnefcageeaa

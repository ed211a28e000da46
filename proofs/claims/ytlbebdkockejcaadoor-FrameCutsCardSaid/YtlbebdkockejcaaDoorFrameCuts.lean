/-
  PROVED HERE: an ask's frame that ends too early, or has more behind it, is none (of what is not short the law asks nothing). What errors.errorType holds is as the program lays it (tied).
-/
import Derived.Test.YtlbebdkockejcaaDoorFrmWorks
import Derived.Test.YtlbebdkockejcaaDoorFrmArgs
import Derived.Test.YtlbebdkockejcaaDoorFrmLaid
import Derived.Test.YtlbebdkockejcaaDoorCards
import Derived.Test.YtlbebdkockejcaaDoorTie
import Derived.WalkKit
import Derived.ProofKit
import Derived.LaidMore
import Derived.OpenShut
import Derived.ShutString
import Derived.ChangeOld
import Derived.Below
import Derived.Stop.Joined
import Derived.SevenTiedAt
namespace Go.Proofs.YtlbebdkockejcaaDoor.frameCuts
open Go.ChangeShapes Go.WideShapes Go.ChangeAt Go.RowKit Go.Proofs.Mdl
open Go.ChangeMaps (open_string shut_string)
set_option linter.unusedVariables false
set_option linter.unusedSimpArgs false
set_option maxRecDepth 100000 in
set_option maxHeartbeats 32000000 in
theorem walk (w : World) (hl : LaidN w) (v0 : Value) (m0 : Frm.Ask) (S0 : AskV w v0 m0) (a1 : Int) (a2 : ByteArray) (w1 : (Lit.int .u16 a1).wf = true) (w2 : a2.size ≤ maxLen) :
    Calls Tryd.prog 5 #[v0, .int .u16 a1, .string a2] w fun e w' => e = .returned (.bool true) ∧ Below w.heap.size w w' := by
  have HL := Lib.hid hl
  obtain ⟨y1, y2, y3, y4, y5, y6, y7⟩ := m0
  obtain rfl := S0
  have h0 : 0 ≤ a1 ∧ a1 ≤ 65535 := by
    have g0 : IntKind.u16.min ≤ a1 ∧ a1 ≤ IntKind.u16.max := by simpa [Lit.wf] using w1
    exact g0
  obtain ⟨p, rfl⟩ : ∃ p : Nat, a1 = p := ⟨a1.toNat, by omega⟩
  have hp : p ≤ 65535 := by omega
  clear h0 w1
  have PA := Lib.hid (fun W => putAsk_any ⟨y1, y2, y3, y4, y5, y6, y7⟩ W)
  obtain ⟨w0, N, hw, hN, hb0, k0, hz0⟩ := box_new w 23 #[.int .i64 y1, .int .i64 y2, .int .i64 y3, .int .i64 y4, .string y5, .string y6, .int .i64 y7]
  have WK := Lib.hid (fworks_any w0 (hl.on hb0 (Nat.le_refl _)))
  have B0 := Lib.hid hb0
  have K0 := Lib.hid k0
  rcases hv : Frm.validA ⟨y1, y2, y3, y4, y5, y6, y7⟩ with _ | _
  · rw [hv] at PA
    simp only [Bool.false_eq_true, if_false] at PA
    simp only [cellA] at PA
    unfold cellA
    clear hl hb0 k0 hz0 HL
    go_enter Tryd.func5, Tryd.ntmps5
    go_upto_region 1 with (fail)
    rw [← hw, ← hN]
    clear hw hN
    go_upto_region 4 with (go_at_call 8; refine WK.out.mono ?_; rintro e w1 ⟨rfl, hb⟩; have B1 := Lib.hid (B0.out.trans (hb.mono B0.out.size)); have K1 := Lib.hid (K0.out.below hb); clear hb)
    have c0 := K1.out.cell 0
    have c1 := K1.out.cell 1
    have c2 := K1.out.cell 2
    have c3 := K1.out.cell 3
    have c4 := K1.out.cell 4
    have c5 := K1.out.cell 5
    have c6 := K1.out.cell 6
    simp only [List.getElem?_toArray, List.getElem?_cons_succ, List.getElem?_cons_zero] at c0 c1 c2 c3 c4 c5 c6
    go_wp2_with (go_at_call 10; refine (PA.out _).mono ?_; rintro e w2 ⟨rfl, hb⟩; have B2 := Lib.hid (B1.out.trans (hb.mono B1.out.size)); clear hb)
    all_goals go_ret
    all_goals first
      | exact ⟨rfl, B2.out⟩
      | exact ⟨rfl, B1.out⟩
  · rw [hv] at PA
    simp only [if_true] at PA
    have hs := Frm.putA_size hv
    have k1 : p % (Frm.putA ⟨y1, y2, y3, y4, y5, y6, y7⟩).size < (Frm.putA ⟨y1, y2, y3, y4, y5, y6, y7⟩).size := Nat.mod_lt _ (by omega)
    have q1 := Frm.cut_kind hv _ k1
    have LQ := Lib.hid (fun W (hW : Below w.heap.size w W) => hl.on hW (Nat.le_refl _))
    have q2 : 0 < a2.size → Frm.kindB (Frm.putA ⟨y1, y2, y3, y4, y5, y6, y7⟩ ++ a2) = -1 := fun h => Frm.more_kind hv a2 h
    obtain ⟨T, hT⟩ : ∃ T, T = Frm.putA ⟨y1, y2, y3, y4, y5, y6, y7⟩ := ⟨_, rfl⟩
    rw [← hT] at PA hs k1 q1 q2
    by_cases h50 : 50 < y5.size ∨ 50 < y6.size ∨ 2000 < a2.size
    · clear LQ q1 q2 hT
      simp only [cellA] at PA
      unfold cellA
      clear hl hb0 k0 hz0 HL
      go_enter Tryd.func5, Tryd.ntmps5
      go_upto_region 1 with (fail)
      rw [← hw, ← hN]
      clear hw hN
      go_upto_region 4 with (go_at_call 8; refine WK.out.mono ?_; rintro e w1 ⟨rfl, hb⟩; have B1 := Lib.hid (B0.out.trans (hb.mono B0.out.size)); have K1 := Lib.hid (K0.out.below hb); clear hb)
      have c0 := K1.out.cell 0
      have c1 := K1.out.cell 1
      have c2 := K1.out.cell 2
      have c3 := K1.out.cell 3
      have c4 := K1.out.cell 4
      have c5 := K1.out.cell 5
      have c6 := K1.out.cell 6
      simp only [List.getElem?_toArray, List.getElem?_cons_succ, List.getElem?_cons_zero] at c0 c1 c2 c3 c4 c5 c6
      go_wp2_with (go_at_call 10; refine (PA.out _).mono ?_; rintro e w2 ⟨rfl, hb⟩; have B2 := Lib.hid (B1.out.trans (hb.mono B1.out.size)); clear hb)
      all_goals first
        | (exfalso; omega)
        | (go_ret; first | exact ⟨rfl, B1.out⟩ | exact ⟨rfl, B2.out⟩)
    · have hm : a2.size ≤ 2000 := by omega
      have Q1 := Lib.hid (fun W (hW : Below w.heap.size w W) => kind_any (T.extract 0 (p % T.size)) W (by rw [ByteArray.size_extract]; omega) (LQ.out W hW))
      rw [q1] at Q1
      have i1 : ¬ (50 : Int) < (y5.size : Int) := by omega
      have i2 : ¬ (50 : Int) < (y6.size : Int) := by omega
      have i3 : ¬ (2000 : Int) < (a2.size : Int) := by omega
      have sT1 : 1 ≤ T.size := by omega
      have sT2 : T.size ≤ 32 := by omega
      by_cases ha2 : a2.size = 0
      · have e0 : a2.toList.isEmpty = true := by rw [List.isEmpty_iff, ← List.length_eq_zero_iff, Lib.toList_data]; simpa using ha2
        have e1 : a2.toList = [] := List.isEmpty_iff.1 e0
        clear LQ q1 q2 hT
        simp only [cellA] at PA
        unfold cellA
        clear hl hb0 k0 hz0 HL
        go_enter Tryd.func5, Tryd.ntmps5
        go_upto_region 1 with (fail)
        rw [← hw, ← hN]
        clear hw hN
        go_upto_region 4 with (go_at_call 8; refine WK.out.mono ?_; rintro e w1 ⟨rfl, hb⟩; have B1 := Lib.hid (B0.out.trans (hb.mono B0.out.size)); have K1 := Lib.hid (K0.out.below hb); clear hb)
        have c0 := K1.out.cell 0
        have c1 := K1.out.cell 1
        have c2 := K1.out.cell 2
        have c3 := K1.out.cell 3
        have c4 := K1.out.cell 4
        have c5 := K1.out.cell 5
        have c6 := K1.out.cell 6
        simp only [List.getElem?_toArray, List.getElem?_cons_succ, List.getElem?_cons_zero] at c0 c1 c2 c3 c4 c5 c6
        go_wp2_with (first | (go_at_call 10; refine (PA.out _).mono ?_; rintro e w2 ⟨rfl, hb⟩; have B2 := Lib.hid (B1.out.trans (hb.mono B1.out.size)); clear hb) | (go_at_call 12; (with_reducible refine (Q1.out _ B2.out).mono ?_); rintro e w3 ⟨rfl, hb⟩; have B3 := Lib.hid (B2.out.trans (hb.mono B2.out.size)); clear hb))
        all_goals go_ret
        all_goals exact ⟨rfl, B3.out⟩
      · have e0 : a2.toList.isEmpty = false := by rw [Bool.eq_false_iff, Ne, List.isEmpty_iff, ← List.length_eq_zero_iff, Lib.toList_data]; simpa using ha2
        have e1 : ¬ a2.toList = [] := fun e => by rw [e] at e0; cases e0
        have Q2 := Lib.hid (fun W (hW : Below w.heap.size w W) => kind_any (T ++ a2) W (by rw [ByteArray.size_append]; omega) (LQ.out W hW))
        rw [q2 (by omega)] at Q2
        clear LQ q1 q2 hT
        simp only [cellA] at PA
        unfold cellA
        clear hl hb0 k0 hz0 HL
        go_enter Tryd.func5, Tryd.ntmps5
        go_upto_region 1 with (fail)
        rw [← hw, ← hN]
        clear hw hN
        go_upto_region 4 with (go_at_call 8; refine WK.out.mono ?_; rintro e w1 ⟨rfl, hb⟩; have B1 := Lib.hid (B0.out.trans (hb.mono B0.out.size)); have K1 := Lib.hid (K0.out.below hb); clear hb)
        have c0 := K1.out.cell 0
        have c1 := K1.out.cell 1
        have c2 := K1.out.cell 2
        have c3 := K1.out.cell 3
        have c4 := K1.out.cell 4
        have c5 := K1.out.cell 5
        have c6 := K1.out.cell 6
        simp only [List.getElem?_toArray, List.getElem?_cons_succ, List.getElem?_cons_zero] at c0 c1 c2 c3 c4 c5 c6
        go_wp2_with (first | (go_at_call 10; refine (PA.out _).mono ?_; rintro e w2 ⟨rfl, hb⟩; have B2 := Lib.hid (B1.out.trans (hb.mono B1.out.size)); clear hb) | (go_at_call 12; (with_reducible refine (Q1.out _ B2.out).mono ?_); rintro e w3 ⟨rfl, hb⟩; have B3 := Lib.hid (B2.out.trans (hb.mono B2.out.size)); clear hb) | (go_at_call 12; (with_reducible refine (Q2.out _ B3.out).mono ?_); rintro e w4 ⟨rfl, hb⟩; have B4 := Lib.hid (B3.out.trans (hb.mono B3.out.size)); clear hb))
        all_goals go_ret
        all_goals exact ⟨rfl, B4.out⟩
set_option maxRecDepth 100000 in
theorem lifted (os : Os) (started : os.Started) (H : Type) (enc : TypeId × Value → H) :
    ReturnsInHanded {} Tryd.checked os 5 .any (fun w args => (Rows.frameCutsSpec.pre enc Tryd.prog Tryd.f5 [] false w args ∧ laidMetH Tryd.prog Rows.frameCutsRow.laid w) ∧ sizedMet enc Tryd.prog Tryd.f5 (OpenSpec.ofChange Rows.frameCutsSpec) false w args)
      (Rows.frameCutsSpec.post enc Tryd.prog Tryd.f5 false true false false) := by
  refine returnsInHanded_of_change_and (C := Tryd.checked) (X := fun w _ => laidMetH Tryd.prog Rows.frameCutsRow.laid w) (fun _ _ _ hh h => h.of_heap hh) own started (by kernel_rfl) Tryd.func5
    (ChangeSpec.witness_shaped (enc := enc) (C := Tryd.checked) (os := os) (X := fun w _ => laidMetH Tryd.prog Rows.frameCutsRow.laid w) false (World.doorLaid Tryd.prog 400 os) #[.agg #[.int .i64 0, .int .i64 0, .int .i64 0, .int .i64 0, .string ByteArray.empty, .string ByteArray.empty, .int .i64 0], .int .u16 0, .string ByteArray.empty] 8 rfl (World.shaped_of_RefB (by kernel_rfl) (by kernel_rfl)) (by kernel_rfl) (by kernel_rfl) (by kernel_rfl) (door_met os _)) ?_
  intro W base args ds gs before hval0 hW _ _ hL _
  have hval : ∀ (j : Nat) t v, Tryd.f5.params[j]? = some t → args[j]? = some v → Value.okWide Tryd.prog W .any base t v := hval0
  have hW' := hW
  obtain ⟨p, q, hA0, hV, rfl, hfz, hnd⟩ := hW
  have hA : DataW.TrodAll enc Tryd.prog W 0 (fun _ => true) true Tryd.f5.params.toList args.toList ds p := hA0
  rw [Tryd.params5] at hA hval
  obtain ⟨v0, vs0, d0, ds0, p0, q0, hargs, rfl, rfl, h0, r0⟩ := trodAll_cons hA
  obtain ⟨v1, vs1, d1, ds1, p1, q1, rfl, rfl, rfl, h1, r1⟩ := trodAll_cons r0
  obtain ⟨v2, vs2, d2, ds2, p2, q2, rfl, rfl, rfl, h2, r2⟩ := trodAll_cons r1
  obtain ⟨rfl, rfl, rfl⟩ := trodAll_nil r2
  obtain rfl : args = #[v0, v1, v2] := by cases args; simp_all
  obtain ⟨rfl, rfl⟩ := trodVars_none hV
  simp only [List.append_nil] at hW'
  have hk0 := h0
  have hlt0 : ∀ x ∈ p0, x.block < W.heap.size := fun x hx => hW'.lt x (by simp [hx])
  obtain ⟨m0, S0⟩ := arg_ask (hval 0 23 v0 rfl rfl) h0
  obtain ⟨a1, rfl, rfl, rfl, w1⟩ := open_int Tryd.underlying51 (hval 1 51 v1 rfl rfl) h1
  obtain ⟨a2, rfl, rfl, rfl, w2⟩ := open_string Tryd.underlying9 (hval 2 9 v2 rfl rfl) h2
  have hl : LaidN W := laid_of hL
  clear hA0 hval0
  refine (walk W hl v0 m0 S0 a1 a2 w1 w2).mono fun e W' ⟨he, bel⟩ => ?_
  subst he
  exact ⟨_, rfl, _, _, _, [], _, [], hW', trodAll_mk1 (shut_bool Tryd.underlying4 _), (trodAll_cons_mk (Below.trod laidOut (by kernel_rfl) (of_decide_eq_true (by kernel_rfl)) hk0 bel hlt0) (trodAll_cons_mk (shut_int Tryd.underlying51 w1) (trodAll_cons_mk (shut_string Tryd.underlying9 w2) trodAll_mk0))), rfl, bel.frame _, fun h => by cases h⟩
theorem over : Rows.FrameCutsSaid :=
  OpenClaim.holds_of_wide 5 Tryd.f5 rfl rfl rfl rfl rfl rfl rfl ⟨rfl, rfl, rfl, rfl, rfl⟩ rfl rfl rfl rfl rfl (by kernel_rfl) Tryd.func5 (by kernel_rfl)
    (of_decide_eq_true (by kernel_rfl)) (by unfold Func.isWrapper; rw [if_neg (by decide +kernel)]; exact ⟨rfl, rfl⟩)
    (fun os started H enc _ => lifted os started H enc)
theorem proved : Rows.FrameCutsCardSaid :=
  Claim7.holds_tied_plain_at .later [] [.handle] true Rows.frameCutsCard.stood.harness true
    over (fun _ h => by cases h) (by kernel_rfl) (fun _ h => by cases h) frameCuts_row_tie rfl ⟨rfl, rfl⟩ (by kernel_rfl) rfl
    (fun f fn hf hfn => by
      obtain rfl : f = 5 := Option.some.inj ((show Tryd.prog.funcNamed "guilloche/guillochelaw16.FrameCuts" = some 5 by kernel_rfl).symm.trans hf) |>.symm
      obtain rfl : fn = Tryd.f5 := (Option.some.inj (Tryd.func5.symm.trans hfn)).symm
      exact ⟨by kernel_rfl, fun j t ht => by
        rw [Tryd.params5] at ht
        have hm : t ∈ [23, 51, 9] := by simpa using Array.mem_of_getElem? ht
        have hall : ([23, 51, 9].all fun u => !Tryd.prog.wantsStandIn u) = true := by kernel_rfl
        exact (show Tryd.prog.wantsStandIn t = false by simpa using List.all_eq_true.1 hall t hm)⟩)
    (by kernel_rfl)
end Go.Proofs.YtlbebdkockejcaaDoor.frameCuts

/-
  PROVED HERE: an ask's frame has at most 32 bytes (of keys of more than 50 bytes the law asks nothing). What errors.errorType holds is as the program lays it (tied).
-/
import Derived.Test.YtlbebdkockejcaaDoorFrmWorks
import Derived.Test.YtlbebdkockejcaaDoorFrmArgs
import Derived.Test.YtlbebdkockejcaaDoorFrmLaid
import Derived.Test.YtlbebdkockejcaaDoorCards
import Derived.Test.YtlbebdkockejcaaDoorTie
import Derived.WalkKit
import Derived.ProofKit
import Derived.LaidMore
import Derived.OpenShut
import Derived.ShutString
import Derived.ChangeOld
import Derived.Below
import Derived.Stop.Joined
import Derived.SevenTiedAt
namespace Go.Proofs.YtlbebdkockejcaaDoor.frameSizes
open Go.ChangeShapes Go.WideShapes Go.ChangeAt Go.RowKit
open Go.ChangeMaps (open_string shut_string)
set_option linter.unusedVariables false
set_option linter.unusedSimpArgs false
set_option maxRecDepth 100000 in
set_option maxHeartbeats 32000000 in
theorem walk (w : World) (hl : LaidN w) (v0 : Value) (m0 : Frm.Ask) (S0 : AskV w v0 m0) :
    Calls Tryd.prog 6 #[v0] w fun e w' => e = .returned (.bool true) ∧ Below w.heap.size w w' := by
  have HL := Lib.hid hl
  obtain ⟨y1, y2, y3, y4, y5, y6, y7⟩ := m0
  obtain rfl := S0
  have PA := Lib.hid (fun W => putAsk_any ⟨y1, y2, y3, y4, y5, y6, y7⟩ W)
  obtain ⟨w0, N, hw, hN, hb0, k0, hz0⟩ := box_new w 23 #[.int .i64 y1, .int .i64 y2, .int .i64 y3, .int .i64 y4, .string y5, .string y6, .int .i64 y7]
  have WK := Lib.hid (fworks_any w0 (hl.on hb0 (Nat.le_refl _)))
  have B0 := Lib.hid hb0
  have K0 := Lib.hid k0
  rcases hv : Frm.validA ⟨y1, y2, y3, y4, y5, y6, y7⟩ with _ | _
  all_goals rw [hv] at PA
  · simp only [Bool.false_eq_true, if_false] at PA
    unfold cellA at *
    clear hv hl hb0 k0 hz0
    go_enter Tryd.func6, Tryd.ntmps6
    go_upto_region 1 with (fail)
    rw [← hw, ← hN]
    clear hw hN
    go_upto_region 2 with (go_at_call 8; refine WK.out.mono ?_; rintro e w1 ⟨rfl, hb⟩; have B1 := Lib.hid (B0.out.trans (hb.mono B0.out.size)); have K1 := Lib.hid (K0.out.below hb); clear hb)
    have c0 := K1.out.cell 0
    have c1 := K1.out.cell 1
    have c2 := K1.out.cell 2
    have c3 := K1.out.cell 3
    have c4 := K1.out.cell 4
    have c5 := K1.out.cell 5
    have c6 := K1.out.cell 6
    simp only [List.getElem?_toArray, List.getElem?_cons_succ, List.getElem?_cons_zero] at c0 c1 c2 c3 c4 c5 c6
    go_wp2_with (go_at_call 10; refine (PA.out _).mono ?_; rintro e w2 ⟨rfl, hb⟩; have B2 := Lib.hid (B1.out.trans (hb.mono B1.out.size)); clear hb)
    all_goals go_ret
    all_goals first
      | exact ⟨rfl, B2.out⟩
      | exact ⟨rfl, B1.out⟩
  · simp only [if_true] at PA
    have hs := Frm.putA_size hv
    obtain ⟨T, hT⟩ : ∃ T, T = Frm.putA ⟨y1, y2, y3, y4, y5, y6, y7⟩ := ⟨_, rfl⟩
    rw [← hT] at PA hs
    have i1 : (9 : Int) ≤ (T.size : Int) := by omega
    have i2 : (T.size : Int) ≤ 32 := by omega
    unfold cellA at *
    clear hv hl hb0 k0 hz0 hT hs
    go_enter Tryd.func6, Tryd.ntmps6
    go_upto_region 1 with (fail)
    rw [← hw, ← hN]
    clear hw hN
    go_upto_region 2 with (go_at_call 8; refine WK.out.mono ?_; rintro e w1 ⟨rfl, hb⟩; have B1 := Lib.hid (B0.out.trans (hb.mono B0.out.size)); have K1 := Lib.hid (K0.out.below hb); clear hb)
    have c0 := K1.out.cell 0
    have c1 := K1.out.cell 1
    have c2 := K1.out.cell 2
    have c3 := K1.out.cell 3
    have c4 := K1.out.cell 4
    have c5 := K1.out.cell 5
    have c6 := K1.out.cell 6
    simp only [List.getElem?_toArray, List.getElem?_cons_succ, List.getElem?_cons_zero] at c0 c1 c2 c3 c4 c5 c6
    go_wp2_with (go_at_call 10; refine (PA.out _).mono ?_; rintro e w2 ⟨rfl, hb⟩; have B2 := Lib.hid (B1.out.trans (hb.mono B1.out.size)); clear hb)
    all_goals go_ret
    all_goals first
      | exact ⟨rfl, B2.out⟩
      | exact ⟨rfl, B1.out⟩
set_option maxRecDepth 100000 in
theorem lifted (os : Os) (started : os.Started) (H : Type) (enc : TypeId × Value → H) :
    ReturnsInHanded {} Tryd.checked os 6 .any (fun w args => (Rows.frameSizesSpec.pre enc Tryd.prog Tryd.f6 [] false w args ∧ laidMetH Tryd.prog Rows.frameSizesRow.laid w) ∧ sizedMet enc Tryd.prog Tryd.f6 (OpenSpec.ofChange Rows.frameSizesSpec) false w args)
      (Rows.frameSizesSpec.post enc Tryd.prog Tryd.f6 false true false false) := by
  refine returnsInHanded_of_change_and (C := Tryd.checked) (X := fun w _ => laidMetH Tryd.prog Rows.frameSizesRow.laid w) (fun _ _ _ hh h => h.of_heap hh) own started (by kernel_rfl) Tryd.func6
    (ChangeSpec.witness_shaped (enc := enc) (C := Tryd.checked) (os := os) (X := fun w _ => laidMetH Tryd.prog Rows.frameSizesRow.laid w) false (World.doorLaid Tryd.prog 400 os) #[.agg #[.int .i64 0, .int .i64 0, .int .i64 0, .int .i64 0, .string ByteArray.empty, .string ByteArray.empty, .int .i64 0]] 8 rfl (World.shaped_of_RefB (by kernel_rfl) (by kernel_rfl)) (by kernel_rfl) (by kernel_rfl) (by kernel_rfl) (door_met os _)) ?_
  intro W base args ds gs before hval0 hW _ _ hL _
  have hval : ∀ (j : Nat) t v, Tryd.f6.params[j]? = some t → args[j]? = some v → Value.okWide Tryd.prog W .any base t v := hval0
  have hW' := hW
  obtain ⟨p, q, hA0, hV, rfl, hfz, hnd⟩ := hW
  have hA : DataW.TrodAll enc Tryd.prog W 0 (fun _ => true) true Tryd.f6.params.toList args.toList ds p := hA0
  rw [Tryd.params6] at hA hval
  obtain ⟨v0, vs0, d0, ds0, p0, q0, hargs, rfl, rfl, h0, r0⟩ := trodAll_cons hA
  obtain ⟨rfl, rfl, rfl⟩ := trodAll_nil r0
  obtain rfl : args = #[v0] := by cases args; simp_all
  obtain ⟨rfl, rfl⟩ := trodVars_none hV
  simp only [List.append_nil] at hW'
  have hk0 := h0
  have hlt0 : ∀ x ∈ p0, x.block < W.heap.size := fun x hx => hW'.lt x (by simp [hx])
  obtain ⟨m0, S0⟩ := arg_ask (hval 0 23 v0 rfl rfl) h0
  have hl : LaidN W := laid_of hL
  clear hA0 hval0
  refine (walk W hl v0 m0 S0).mono fun e W' ⟨he, bel⟩ => ?_
  subst he
  exact ⟨_, rfl, _, _, _, [], _, [], hW', trodAll_mk1 (shut_bool Tryd.underlying4 _), (trodAll_cons_mk (Below.trod laidOut (by kernel_rfl) (of_decide_eq_true (by kernel_rfl)) hk0 bel hlt0) trodAll_mk0), rfl, bel.frame _, fun h => by cases h⟩
theorem over : Rows.FrameSizesSaid :=
  OpenClaim.holds_of_wide 6 Tryd.f6 rfl rfl rfl rfl rfl rfl rfl ⟨rfl, rfl, rfl, rfl, rfl⟩ rfl rfl rfl rfl rfl (by kernel_rfl) Tryd.func6 (by kernel_rfl)
    (of_decide_eq_true (by kernel_rfl)) (by unfold Func.isWrapper; rw [if_neg (by decide +kernel)]; exact ⟨rfl, rfl⟩)
    (fun os started H enc _ => lifted os started H enc)
theorem proved : Rows.FrameSizesCardSaid :=
  Claim7.holds_tied_plain_at .later [] [.handle] true Rows.frameSizesCard.stood.harness true
    over (fun _ h => by cases h) (by kernel_rfl) (fun _ h => by cases h) frameSizes_row_tie rfl ⟨rfl, rfl⟩ (by kernel_rfl) rfl
    (fun f fn hf hfn => by
      obtain rfl : f = 6 := Option.some.inj ((show Tryd.prog.funcNamed "guilloche/guillochelaw16.FrameSizes" = some 6 by kernel_rfl).symm.trans hf) |>.symm
      obtain rfl : fn = Tryd.f6 := (Option.some.inj (Tryd.func6.symm.trans hfn)).symm
      exact ⟨by kernel_rfl, fun j t ht => by
        rw [Tryd.params6] at ht
        have hm : t ∈ [23] := by simpa using Array.mem_of_getElem? ht
        have hall : ([23].all fun u => !Tryd.prog.wantsStandIn u) = true := by kernel_rfl
        exact (show Tryd.prog.wantsStandIn t = false by simpa using List.all_eq_true.1 hall t hm)⟩)
    (by kernel_rfl)
end Go.Proofs.YtlbebdkockejcaaDoor.frameSizes

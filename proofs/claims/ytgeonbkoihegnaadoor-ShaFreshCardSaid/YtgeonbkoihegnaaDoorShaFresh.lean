/-
  PROVED HERE: the law ShaFresh returns true for every input (what is written into one is not written into another one; more may be written behind a sum; of texts of more than 300 bytes the law asks nothing). The two tables of the hash are as the program lays them (tied).
-/
import Derived.Test.YtgeonbkoihegnaaDoorShaMore
import Derived.Test.YtgeonbkoihegnaaDoorCards
import Derived.Test.YtgeonbkoihegnaaDoorTie
import Derived.WalkKit
import Derived.ProofKit
import Derived.LaidMore
import Derived.OpenShut
import Derived.ShutString
import Derived.ChangeOld
import Derived.Below
import Derived.Stop.Joined
import Derived.SevenTiedAt
namespace Go.Proofs.YtgeonbkoihegnaaDoor.shaFresh
open Go.ChangeShapes Go.WideShapes Go.ChangeAt Go.RowKit
open Go.ChangeMaps (open_string shut_string)
set_option linter.unusedVariables false
set_option maxHeartbeats 1000000 in
theorem walk (a0 : ByteArray) (a1 : ByteArray) (w0 : a0.size ≤ maxLen) (w1 : a1.size ≤ maxLen) (w : World) (hl : Laid w) :
    Calls Tryd.prog 8 #[.string a0, .string a1] w fun e w' => e = .returned (.bool true) ∧ Below w.heap.size w w' := by
  have HL := Lib.hid hl
  have hw1 : 1 < w.heap.size := laid_lt hl
  clear hl
  by_cases hlen : 300 < a0.size ∨ 300 < a1.size
  · by_cases ha : 300 < a0.size
    all_goals
      first | have hb : 300 < a1.size := hlen.resolve_left ha | skip
      clear hlen
      go_enter Tryd.func8, Tryd.ntmps8
      go_wp2_with fail
      refine (works_any _ HL.out).mono ?_
      rintro e w1 ⟨rfl, hb1⟩
      have L1 := Lib.hid (HL.out.below hw1 hb1)
      have z1 : 1 < w1.heap.size := laid_lt L1.out
      go_wp2_with fail
      refine (new_any _ L1.out).mono ?_
      rintro e w2 ⟨rfl, h2, hb2⟩
      have L2 := Lib.hid (L1.out.below z1 hb2)
      clear h2
      go_wp2_with fail
      refine (new_any _ L2.out).mono ?_
      rintro e w3 ⟨rfl, h3, hb3⟩
      clear h3
      go_wp2_with fail
      go_ret
      exact ⟨rfl, ((((Bl.start w).call hb1).call hb2).call hb3).1⟩
  · have ha : a0.size ≤ 300 := by omega
    have hb : a1.size ≤ 300 := by omega
    have hab : a0.size + a1.size ≤ 600 := by omega
    clear hlen
    go_enter Tryd.func8, Tryd.ntmps8
    go_wp2_with fail
    refine (works_any _ HL.out).mono ?_
    rintro e w1 ⟨rfl, hb1⟩
    have B1 := Lib.hid ((Bl.start w).call hb1)
    have L1 := Lib.hid (HL.out.below hw1 hb1)
    have z1 : 1 < w1.heap.size := laid_lt L1.out
    clear hb1
    go_wp2_with fail
    refine (new_any _ L1.out).mono ?_
    rintro e w2 ⟨rfl, h2, hb2⟩
    have B2 := Lib.hid (B1.out.call hb2)
    have L2 := Lib.hid (L1.out.below z1 hb2)
    have hgw := h2.lt
    have H2 := Lib.hid h2
    have z2 : 1 < w2.heap.size := laid_lt L2.out
    clear h2 hb2
    have hB1 : w.heap.size ≤ w1.heap.size := B1.out.2
    generalize w1.heap.size = g at H2 hgw z1 hB1 ⊢
    go_wp2_with fail
    refine (new_any _ L2.out).mono ?_
    rintro e w3 ⟨rfl, h3, hb3⟩
    have B3 := Lib.hid (B2.out.call hb3)
    have L3 := Lib.hid (L2.out.below z2 hb3)
    have H3 := Lib.hid (H2.out.below hb3)
    have hgw2 := h3.lt
    have K3 := Lib.hid h3
    clear h3 hb3
    have hB2 : w.heap.size ≤ w2.heap.size := B2.out.2
    generalize w2.heap.size = g2 at K3 hgw hgw2 z2 hB2 ⊢
    have hne : g ≠ g2 := by omega
    have hne2 : g2 ≠ g := by omega
    go_wp2_with fail
    refine (write_nat g _ a0 _ L3.out z1 (by omega) H3.out).mono ?_
    rintro e w4 ⟨rfl, h4, g4⟩
    have B4 := Lib.hid (B3.out.grown g4 hB1)
    have L4 := Lib.hid (L3.out.grown z1 g4)
    have H4 := Lib.hid h4
    have K4 := Lib.hid (K3.out.grown g4 hne2)
    clear h4 g4
    go_wp2_with fail
    refine (write_nat g2 _ a1 _ L4.out z2 (by omega) K4.out).mono ?_
    rintro e w5 ⟨rfl, k5, g5⟩
    have B5 := Lib.hid (B4.out.grown g5 hB2)
    have L5 := Lib.hid (L4.out.grown z2 g5)
    have H5 := Lib.hid (H4.out.grown g5 hne)
    have K5 := Lib.hid k5
    clear k5 g5
    go_wp2_with fail
    refine (sum_any g _ _ L5.out z1 H5.out).mono ?_
    rintro e w6 ⟨rfl, b6⟩
    have B6 := Lib.hid (B5.out.call b6)
    have L6 := Lib.hid (L5.out.below (laid_lt L5.out) b6)
    have H6 := Lib.hid (H5.out.below b6)
    have K6 := Lib.hid (K5.out.below b6)
    clear b6
    go_wp2_with fail
    refine (sum_any g2 _ _ L6.out z2 K6.out).mono ?_
    rintro e w7 ⟨rfl, b7⟩
    have B7 := Lib.hid (B6.out.call b7)
    have L7 := Lib.hid (L6.out.below (laid_lt L6.out) b7)
    have H7 := Lib.hid (H6.out.below b7)
    have K7 := Lib.hid (K6.out.below b7)
    clear b7
    go_wp2_with fail
    refine (write_nat g _ a1 _ L7.out z1 (by omega) H7.out).mono ?_
    rintro e w8 ⟨rfl, h8, g8⟩
    have B8 := Lib.hid (B7.out.grown g8 hB1)
    have L8 := Lib.hid (L7.out.grown z1 g8)
    have H8 := Lib.hid h8
    have K8 := Lib.hid (K7.out.grown g8 hne2)
    clear h8 g8
    go_wp2_with fail
    refine (write_nat g2 _ a0 _ L8.out z2 (by omega) K8.out).mono ?_
    rintro e w9 ⟨rfl, k9, g9⟩
    have B9 := Lib.hid (B8.out.grown g9 hB2)
    have L9 := Lib.hid (L8.out.grown z2 g9)
    have H9 := Lib.hid (H8.out.grown g9 hne)
    have K9 := Lib.hid k9
    clear k9 g9
    go_wp2_with fail
    refine (of_one a0 _ L9.out (by omega)).mono ?_
    rintro e w10 ⟨rfl, b10⟩
    have B10 := Lib.hid (B9.out.call b10)
    have L10 := Lib.hid (L9.out.below (laid_lt L9.out) b10)
    have H10 := Lib.hid (H9.out.below b10)
    have K10 := Lib.hid (K9.out.below b10)
    clear b10
    go_wp2_with fail
    refine (of_one a1 _ L10.out (by omega)).mono ?_
    rintro e w11 ⟨rfl, b11⟩
    have B11 := Lib.hid (B10.out.call b11)
    have L11 := Lib.hid (L10.out.below (laid_lt L10.out) b11)
    have H11 := Lib.hid (H10.out.below b11)
    have K11 := Lib.hid (K10.out.below b11)
    clear b11
    go_wp2_with fail
    refine (sum_any g _ _ L11.out z1 H11.out).mono ?_
    rintro e w12 ⟨rfl, b12⟩
    have B12 := Lib.hid (B11.out.call b12)
    have L12 := Lib.hid (L11.out.below (laid_lt L11.out) b12)
    have K12 := Lib.hid (K11.out.below b12)
    clear b12
    go_wp2_with fail
    refine (of_one (a0 ++ a1) _ L12.out (by rw [ByteArray.size_append]; omega)).mono ?_
    rintro e w13 ⟨rfl, b13⟩
    have B13 := Lib.hid (B12.out.call b13)
    have L13 := Lib.hid (L12.out.below (laid_lt L12.out) b13)
    have K13 := Lib.hid (K12.out.below b13)
    clear b13
    go_wp2_with fail
    refine (sum_any g2 _ _ L13.out z2 K13.out).mono ?_
    rintro e w14 ⟨rfl, b14⟩
    have B14 := Lib.hid (B13.out.call b14)
    have L14 := Lib.hid (L13.out.below (laid_lt L13.out) b14)
    clear b14
    go_wp2_with fail
    refine (of_two a1 a0 _ L14.out (by omega) (by omega)).mono ?_
    rintro e w15 ⟨rfl, b15⟩
    have B15 := Lib.hid (B14.out.call b15)
    clear b15
    go_wp2_with fail
    go_ret
    exact ⟨rfl, B15.out.1⟩
set_option maxRecDepth 100000 in
theorem lifted (os : Os) (started : os.Started) (H : Type) (enc : TypeId × Value → H) :
    ReturnsInHanded {} Tryd.checked os 8 .any (fun w args => (Rows.shaFreshSpec.pre enc Tryd.prog Tryd.f8 [] false w args ∧ laidMetH Tryd.prog Rows.shaFreshRow.laid w) ∧ sizedMet enc Tryd.prog Tryd.f8 (OpenSpec.ofChange Rows.shaFreshSpec) false w args)
      (Rows.shaFreshSpec.post enc Tryd.prog Tryd.f8 false true false false) := by
  refine returnsInHanded_of_change_and (C := Tryd.checked) (X := fun w _ => laidMetH Tryd.prog Rows.shaFreshRow.laid w) (fun _ _ _ hh h => h.of_heap hh) own started (by kernel_rfl) Tryd.func8
    (ChangeSpec.witness_shaped (enc := enc) (C := Tryd.checked) (os := os) (X := fun w _ => laidMetH Tryd.prog Rows.shaFreshRow.laid w) false (World.doorLaid Tryd.prog 400 os) #[.string ByteArray.empty, .string ByteArray.empty] 8 rfl (World.shaped_of_RefB (by kernel_rfl) (by kernel_rfl)) (by kernel_rfl) (by kernel_rfl) (by kernel_rfl) (door_met os _)) ?_
  intro W base args ds gs before hval0 hW _ _ hL _
  have hval : ∀ (j : Nat) t v, Tryd.f8.params[j]? = some t → args[j]? = some v → Value.okWide Tryd.prog W .any base t v := hval0
  have hW' := hW
  obtain ⟨p, q, hA0, hV, rfl, hfz, hnd⟩ := hW
  have hA : DataW.TrodAll enc Tryd.prog W 0 (fun _ => true) true Tryd.f8.params.toList args.toList ds p := hA0
  rw [Tryd.params8] at hA hval
  obtain ⟨v0, vs0, d0, ds0, p0, q0, hargs, rfl, rfl, h0, r0⟩ := trodAll_cons hA
  obtain ⟨v1, vs1, d1, ds1, p1, q1, rfl, rfl, rfl, h1, r1⟩ := trodAll_cons r0
  obtain ⟨rfl, rfl, rfl⟩ := trodAll_nil r1
  obtain rfl : args = #[v0, v1] := by cases args; simp_all
  obtain ⟨rfl, rfl⟩ := trodVars_none hV
  obtain ⟨a0, rfl, rfl, rfl, w0⟩ := open_string Tryd.underlying9 (hval 0 9 v0 rfl rfl) h0
  obtain ⟨a1, rfl, rfl, rfl, w1⟩ := open_string Tryd.underlying9 (hval 1 9 v1 rfl rfl) h1
  have hl : Laid W := laid_of hL
  clear hA0 hval0
  simp only [List.append_nil] at hW'
  refine (walk a0 a1 w0 w1 W hl).mono fun e W' ⟨he, bel⟩ => ?_
  subst he
  exact ⟨_, rfl, _, _, _, [], [], [], hW', trodAll_mk1 (shut_bool Tryd.underlying4 _), (trodAll_cons_mk (shut_string Tryd.underlying9 w0) (trodAll_cons_mk (shut_string Tryd.underlying9 w1) trodAll_mk0)), rfl, bel.frame _, fun h => by cases h⟩
theorem over : Rows.ShaFreshSaid :=
  OpenClaim.holds_of_wide 8 Tryd.f8 rfl rfl rfl rfl rfl rfl rfl ⟨rfl, rfl, rfl, rfl, rfl⟩ rfl rfl rfl rfl rfl (by kernel_rfl) Tryd.func8 (by kernel_rfl)
    (of_decide_eq_true (by kernel_rfl)) (by unfold Func.isWrapper; rw [if_neg (by decide +kernel)]; exact ⟨rfl, rfl⟩)
    (fun os started H enc _ => lifted os started H enc)
theorem proved : Rows.ShaFreshCardSaid :=
  Claim7.holds_tied_plain_at .later [] [.data, .data] true Rows.shaFreshCard.stood.harness true
    over (fun _ h => by cases h) (by kernel_rfl) (fun _ h => by cases h) shaFresh_row_tie rfl ⟨rfl, rfl⟩ (by kernel_rfl) rfl
    (fun f fn hf hfn => by
      obtain rfl : f = 8 := Option.some.inj ((show Tryd.prog.funcNamed "guilloche/guillochelaw03.ShaFresh" = some 8 by kernel_rfl).symm.trans hf) |>.symm
      obtain rfl : fn = Tryd.f8 := (Option.some.inj (Tryd.func8.symm.trans hfn)).symm
      exact ⟨by kernel_rfl, fun j t ht => by
        rw [Tryd.params8] at ht
        have hm : t ∈ [9, 9] := by simpa using Array.mem_of_getElem? ht
        have hall : ([9, 9].all fun u => !Tryd.prog.wantsStandIn u) = true := by kernel_rfl
        exact (show Tryd.prog.wantsStandIn t = false by simpa using List.all_eq_true.1 hall t hm)⟩)
    (by kernel_rfl)
end Go.Proofs.YtgeonbkoihegnaaDoor.shaFresh

/-
  PROVED HERE: the law ShaCollide returns true for every input (two texts collide just if they are two, and have one hash; of texts of more than 300 bytes the law asks nothing). The two tables of the hash are as the program lays them (tied).
-/
import Derived.Test.YtgeonbkoihegnaaDoorShaMore
import Derived.Test.YtgeonbkoihegnaaDoorCards
import Derived.Test.YtgeonbkoihegnaaDoorTie
import Derived.WalkKit
import Derived.ProofKit
import Derived.LaidMore
import Derived.OpenShut
import Derived.ShutString
import Derived.ChangeOld
import Derived.Below
import Derived.Stop.Joined
import Derived.SevenTiedAt
namespace Go.Proofs.YtgeonbkoihegnaaDoor.shaCollide
open Go.ChangeShapes Go.WideShapes Go.ChangeAt Go.RowKit
open Go.ChangeMaps (open_string shut_string)
set_option linter.unusedVariables false
set_option maxHeartbeats 1000000 in
theorem walk (a0 : ByteArray) (a1 : ByteArray) (w0 : a0.size ≤ maxLen) (w1 : a1.size ≤ maxLen) (w : World) (hl : Laid w) :
    Calls Tryd.prog 6 #[.string a0, .string a1] w fun e w' => e = .returned (.bool true) ∧ Below w.heap.size w w' := by
  have HL := Lib.hid hl
  have hw1 : 1 < w.heap.size := laid_lt hl
  clear hl
  by_cases hlen : 300 < a0.size ∨ 300 < a1.size
  · by_cases ha : 300 < a0.size
    all_goals
      first | have hb : 300 < a1.size := hlen.resolve_left ha | skip
      clear hlen
      go_enter Tryd.func6, Tryd.ntmps6
      go_wp2_with fail
      refine (works_any _ HL.out).mono ?_
      rintro e w1 ⟨rfl, hb1⟩
      go_wp2_with fail
      go_ret
      exact ⟨rfl, hb1⟩
  · have ha : a0.size ≤ 300 := by omega
    have hb : a1.size ≤ 300 := by omega
    clear hlen
    go_enter Tryd.func6, Tryd.ntmps6
    go_wp2_with fail
    refine (works_any _ HL.out).mono ?_
    rintro e w1 ⟨rfl, hb1⟩
    have B1 := Lib.hid ((Bl.start w).call hb1)
    have L1 := Lib.hid (HL.out.below hw1 hb1)
    have z1 : 1 < w1.heap.size := laid_lt L1.out
    clear hb1
    go_wp2_with fail
    refine (collide_any a0 a1 _ L1.out (by omega) (by omega)).mono ?_
    rintro e w2 ⟨rfl, hb2⟩
    have B2 := Lib.hid (B1.out.call hb2)
    have L2 := Lib.hid (L1.out.below z1 hb2)
    have z2 : 1 < w2.heap.size := laid_lt L2.out
    clear hb2
    cases hab : (a0.toList == a1.toList) with
    | true =>
      have HC : Hid (colB a0 a1 = false) := by
        have : colB a0 a1 = false := by rw [colB, hab]; rfl
        exact this
      rw [HC.out]
      go_wp2_with fail
      refine (collide_any a0 a1 _ L2.out (by omega) (by omega)).mono ?_
      rintro e w3 ⟨rfl, hb3⟩
      rw [HC.out]
      have B3 := Lib.hid (B2.out.call hb3)
      have L3 := Lib.hid (L2.out.below z2 hb3)
      clear hb3
      go_wp2_with fail
      refine (collide_any a1 a0 _ L3.out (by omega) (by omega)).mono ?_
      rintro e w4 ⟨rfl, hb4⟩
      rw [col_comm, HC.out]
      have B4 := Lib.hid (B3.out.call hb4)
      clear hb4
      go_wp2_with fail
      go_ret
      exact ⟨rfl, B4.out.1⟩
    | false =>
      obtain ⟨c, hc⟩ : ∃ c, c = ((Nib.bs (Sha.sum a0.data.toList)).toList == (Nib.bs (Sha.sum a1.data.toList)).toList) := ⟨_, rfl⟩
      have HC : Hid (colB a0 a1 = c) := by
        have : colB a0 a1 = c := by rw [colB, hab, hc]; rfl
        exact this
      have HCC := Lib.hid hc
      clear hc
      rw [HC.out]
      go_wp2_with fail
      refine (of_one a0 _ L2.out (by omega)).mono ?_
      rintro e w3 ⟨rfl, hb3⟩
      have B3 := Lib.hid (B2.out.call hb3)
      have L3 := Lib.hid (L2.out.below z2 hb3)
      have z3 : 1 < w3.heap.size := laid_lt L3.out
      clear hb3
      go_wp2_with fail
      refine (of_one a1 _ L3.out (by omega)).mono ?_
      rintro e w4 ⟨rfl, hb4⟩
      have B4 := Lib.hid (B3.out.call hb4)
      have L4 := Lib.hid (L3.out.below z3 hb4)
      have z4 : 1 < w4.heap.size := laid_lt L4.out
      have hcc := HCC.out.symm
      clear hb4
      go_wp2_with fail
      refine (collide_any a0 a1 _ L4.out (by omega) (by omega)).mono ?_
      rintro e w5 ⟨rfl, hb5⟩
      rw [HC.out]
      have B5 := Lib.hid (B4.out.call hb5)
      have L5 := Lib.hid (L4.out.below z4 hb5)
      clear hb5
      go_wp2_with fail
      refine (collide_any a1 a0 _ L5.out (by omega) (by omega)).mono ?_
      rintro e w6 ⟨rfl, hb6⟩
      rw [col_comm, HC.out]
      have B6 := Lib.hid (B5.out.call hb6)
      clear hb6
      go_wp2_with fail
      go_ret
      exact ⟨rfl, B6.out.1⟩
set_option maxRecDepth 100000 in
theorem lifted (os : Os) (started : os.Started) (H : Type) (enc : TypeId × Value → H) :
    ReturnsInHanded {} Tryd.checked os 6 .any (fun w args => (Rows.shaCollideSpec.pre enc Tryd.prog Tryd.f6 [] false w args ∧ laidMetH Tryd.prog Rows.shaCollideRow.laid w) ∧ sizedMet enc Tryd.prog Tryd.f6 (OpenSpec.ofChange Rows.shaCollideSpec) false w args)
      (Rows.shaCollideSpec.post enc Tryd.prog Tryd.f6 false true false false) := by
  refine returnsInHanded_of_change_and (C := Tryd.checked) (X := fun w _ => laidMetH Tryd.prog Rows.shaCollideRow.laid w) (fun _ _ _ hh h => h.of_heap hh) own started (by kernel_rfl) Tryd.func6
    (ChangeSpec.witness_shaped (enc := enc) (C := Tryd.checked) (os := os) (X := fun w _ => laidMetH Tryd.prog Rows.shaCollideRow.laid w) false (World.doorLaid Tryd.prog 400 os) #[.string ByteArray.empty, .string ByteArray.empty] 8 rfl (World.shaped_of_RefB (by kernel_rfl) (by kernel_rfl)) (by kernel_rfl) (by kernel_rfl) (by kernel_rfl) (door_met os _)) ?_
  intro W base args ds gs before hval0 hW _ _ hL _
  have hval : ∀ (j : Nat) t v, Tryd.f6.params[j]? = some t → args[j]? = some v → Value.okWide Tryd.prog W .any base t v := hval0
  have hW' := hW
  obtain ⟨p, q, hA0, hV, rfl, hfz, hnd⟩ := hW
  have hA : DataW.TrodAll enc Tryd.prog W 0 (fun _ => true) true Tryd.f6.params.toList args.toList ds p := hA0
  rw [Tryd.params6] at hA hval
  obtain ⟨v0, vs0, d0, ds0, p0, q0, hargs, rfl, rfl, h0, r0⟩ := trodAll_cons hA
  obtain ⟨v1, vs1, d1, ds1, p1, q1, rfl, rfl, rfl, h1, r1⟩ := trodAll_cons r0
  obtain ⟨rfl, rfl, rfl⟩ := trodAll_nil r1
  obtain rfl : args = #[v0, v1] := by cases args; simp_all
  obtain ⟨rfl, rfl⟩ := trodVars_none hV
  obtain ⟨a0, rfl, rfl, rfl, w0⟩ := open_string Tryd.underlying9 (hval 0 9 v0 rfl rfl) h0
  obtain ⟨a1, rfl, rfl, rfl, w1⟩ := open_string Tryd.underlying9 (hval 1 9 v1 rfl rfl) h1
  have hl : Laid W := laid_of hL
  clear hA0 hval0
  simp only [List.append_nil] at hW'
  refine (walk a0 a1 w0 w1 W hl).mono fun e W' ⟨he, bel⟩ => ?_
  subst he
  exact ⟨_, rfl, _, _, _, [], [], [], hW', trodAll_mk1 (shut_bool Tryd.underlying4 _), (trodAll_cons_mk (shut_string Tryd.underlying9 w0) (trodAll_cons_mk (shut_string Tryd.underlying9 w1) trodAll_mk0)), rfl, bel.frame _, fun h => by cases h⟩
theorem over : Rows.ShaCollideSaid :=
  OpenClaim.holds_of_wide 6 Tryd.f6 rfl rfl rfl rfl rfl rfl rfl ⟨rfl, rfl, rfl, rfl, rfl⟩ rfl rfl rfl rfl rfl (by kernel_rfl) Tryd.func6 (by kernel_rfl)
    (of_decide_eq_true (by kernel_rfl)) (by unfold Func.isWrapper; rw [if_neg (by decide +kernel)]; exact ⟨rfl, rfl⟩)
    (fun os started H enc _ => lifted os started H enc)
theorem proved : Rows.ShaCollideCardSaid :=
  Claim7.holds_tied_plain_at .later [] [.data, .data] true Rows.shaCollideCard.stood.harness true
    over (fun _ h => by cases h) (by kernel_rfl) (fun _ h => by cases h) shaCollide_row_tie rfl ⟨rfl, rfl⟩ (by kernel_rfl) rfl
    (fun f fn hf hfn => by
      obtain rfl : f = 6 := Option.some.inj ((show Tryd.prog.funcNamed "guilloche/guillochelaw03.ShaCollide" = some 6 by kernel_rfl).symm.trans hf) |>.symm
      obtain rfl : fn = Tryd.f6 := (Option.some.inj (Tryd.func6.symm.trans hfn)).symm
      exact ⟨by kernel_rfl, fun j t ht => by
        rw [Tryd.params6] at ht
        have hm : t ∈ [9, 9] := by simpa using Array.mem_of_getElem? ht
        have hall : ([9, 9].all fun u => !Tryd.prog.wantsStandIn u) = true := by kernel_rfl
        exact (show Tryd.prog.wantsStandIn t = false by simpa using List.all_eq_true.1 hall t hm)⟩)
    (by kernel_rfl)
end Go.Proofs.YtgeonbkoihegnaaDoor.shaCollide

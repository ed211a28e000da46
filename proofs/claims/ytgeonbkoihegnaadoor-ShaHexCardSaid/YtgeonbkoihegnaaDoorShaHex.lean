/-
  PROVED HERE: the law ShaHex returns true for every input (digits tell bytes: they are twice as many, and of other bytes they are others; of texts of more than 300 bytes the law asks nothing). The two tables of the hash are as the program lays them (tied).
-/
import Derived.Test.YtgeonbkoihegnaaDoorShaMore
import Derived.Test.YtgeonbkoihegnaaDoorCards
import Derived.Test.YtgeonbkoihegnaaDoorTie
import Derived.WalkKit
import Derived.ProofKit
import Derived.LaidMore
import Derived.OpenShut
import Derived.ShutString
import Derived.ChangeOld
import Derived.Below
import Derived.Stop.Joined
import Derived.SevenTiedAt
namespace Go.Proofs.YtgeonbkoihegnaaDoor.shaHex
open Go.ChangeShapes Go.WideShapes Go.ChangeAt Go.RowKit
open Go.ChangeMaps (open_string shut_string)
set_option linter.unusedVariables false
set_option maxHeartbeats 1000000 in
theorem walk (a0 : ByteArray) (a1 : ByteArray) (w0 : a0.size ≤ maxLen) (w1 : a1.size ≤ maxLen) (w : World) (hl : Laid w) :
    Calls Tryd.prog 7 #[.string a0, .string a1] w fun e w' => e = .returned (.bool true) ∧ Below w.heap.size w w' := by
  have HL := Lib.hid hl
  have hw1 : 1 < w.heap.size := laid_lt hl
  clear hl
  by_cases hlen : 300 < a0.size ∨ 300 < a1.size
  · by_cases ha : 300 < a0.size
    all_goals
      first | have hb : 300 < a1.size := hlen.resolve_left ha | skip
      clear hlen
      go_enter Tryd.func7, Tryd.ntmps7
      go_wp2_with fail
      refine (works_any _ HL.out).mono ?_
      rintro e w1 ⟨rfl, hb1⟩
      go_wp2_with fail
      go_ret
      exact ⟨rfl, hb1⟩
  · have ha : a0.size ≤ 300 := by omega
    have hb : a1.size ≤ 300 := by omega
    clear hlen
    obtain ⟨x, hx⟩ : ∃ x, x = Nib.bs (Lib.Hx.encode a0.data.toList) := ⟨_, rfl⟩
    obtain ⟨y, hy⟩ : ∃ y, y = Nib.bs (Lib.Hx.encode a1.data.toList) := ⟨_, rfl⟩
    have hxs : x.size = 2 * a0.size := by rw [hx, Nib.bs_size, Lib.Hx.encode_length, Nib.len_of]
    have hys : y.size ≤ 600 := by rw [hy, Nib.bs_size, Lib.Hx.encode_length, Nib.len_of]; omega
    have hx6 : x.size ≤ 600 := by omega
    have t1 : ((x.size : Int) == 2 * (a0.size : Int)) = true := by rw [hxs]; simp
    have hq : (x.toList == y.toList) = (a0.toList == a1.toList) := by rw [hx, hy]; exact hex_eq a0 a1
    have HQ := Lib.hid hq
    have HX := Lib.hid hx
    have HY := Lib.hid hy
    clear hxs hq hx hy
    go_enter Tryd.func7, Tryd.ntmps7
    go_wp2_with fail
    refine (works_any _ HL.out).mono ?_
    rintro e w1 ⟨rfl, hb1⟩
    go_wp2_with fail
    refine (hex_any a0 _ (by omega)).mono ?_
    rintro e w2 ⟨rfl, hb2⟩
    rw [← HX.out]
    go_wp2_with fail
    refine (hex_any a0 _ (by omega)).mono ?_
    rintro e w3 ⟨rfl, hb3⟩
    rw [← HX.out]
    go_wp2_with fail
    refine (hex_any a1 _ (by omega)).mono ?_
    rintro e w4 ⟨rfl, hb4⟩
    rw [← HY.out]
    go_wp2_with fail
    refine (hex_join a0 a1 _ (by omega) (by omega)).mono ?_
    rintro e w5 ⟨rfl, hb5⟩
    rw [← HX.out, ← HY.out]
    go_wp2_with fail
    refine (hex_any a0 _ (by omega)).mono ?_
    rintro e w6 ⟨rfl, hb6⟩
    rw [← HX.out]
    go_wp2_with fail
    refine (hex_any a1 _ (by omega)).mono ?_
    rintro e w7 ⟨rfl, hb7⟩
    rw [← HY.out]
    go_wp2_with fail
    go_ret
    exact ⟨ret_bool (by rw [HQ.out]; simp), ((((((((Bl.start w).call hb1).call hb2).call hb3).call hb4).call hb5).call hb6).call hb7).1⟩
set_option maxRecDepth 100000 in
theorem lifted (os : Os) (started : os.Started) (H : Type) (enc : TypeId × Value → H) :
    ReturnsInHanded {} Tryd.checked os 7 .any (fun w args => (Rows.shaHexSpec.pre enc Tryd.prog Tryd.f7 [] false w args ∧ laidMetH Tryd.prog Rows.shaHexRow.laid w) ∧ sizedMet enc Tryd.prog Tryd.f7 (OpenSpec.ofChange Rows.shaHexSpec) false w args)
      (Rows.shaHexSpec.post enc Tryd.prog Tryd.f7 false true false false) := by
  refine returnsInHanded_of_change_and (C := Tryd.checked) (X := fun w _ => laidMetH Tryd.prog Rows.shaHexRow.laid w) (fun _ _ _ hh h => h.of_heap hh) own started (by kernel_rfl) Tryd.func7
    (ChangeSpec.witness_shaped (enc := enc) (C := Tryd.checked) (os := os) (X := fun w _ => laidMetH Tryd.prog Rows.shaHexRow.laid w) false (World.doorLaid Tryd.prog 400 os) #[.string ByteArray.empty, .string ByteArray.empty] 8 rfl (World.shaped_of_RefB (by kernel_rfl) (by kernel_rfl)) (by kernel_rfl) (by kernel_rfl) (by kernel_rfl) (door_met os _)) ?_
  intro W base args ds gs before hval0 hW _ _ hL _
  have hval : ∀ (j : Nat) t v, Tryd.f7.params[j]? = some t → args[j]? = some v → Value.okWide Tryd.prog W .any base t v := hval0
  have hW' := hW
  obtain ⟨p, q, hA0, hV, rfl, hfz, hnd⟩ := hW
  have hA : DataW.TrodAll enc Tryd.prog W 0 (fun _ => true) true Tryd.f7.params.toList args.toList ds p := hA0
  rw [Tryd.params7] at hA hval
  obtain ⟨v0, vs0, d0, ds0, p0, q0, hargs, rfl, rfl, h0, r0⟩ := trodAll_cons hA
  obtain ⟨v1, vs1, d1, ds1, p1, q1, rfl, rfl, rfl, h1, r1⟩ := trodAll_cons r0
  obtain ⟨rfl, rfl, rfl⟩ := trodAll_nil r1
  obtain rfl : args = #[v0, v1] := by cases args; simp_all
  obtain ⟨rfl, rfl⟩ := trodVars_none hV
  obtain ⟨a0, rfl, rfl, rfl, w0⟩ := open_string Tryd.underlying9 (hval 0 9 v0 rfl rfl) h0
  obtain ⟨a1, rfl, rfl, rfl, w1⟩ := open_string Tryd.underlying9 (hval 1 9 v1 rfl rfl) h1
  have hl : Laid W := laid_of hL
  clear hA0 hval0
  simp only [List.append_nil] at hW'
  refine (walk a0 a1 w0 w1 W hl).mono fun e W' ⟨he, bel⟩ => ?_
  subst he
  exact ⟨_, rfl, _, _, _, [], [], [], hW', trodAll_mk1 (shut_bool Tryd.underlying4 _), (trodAll_cons_mk (shut_string Tryd.underlying9 w0) (trodAll_cons_mk (shut_string Tryd.underlying9 w1) trodAll_mk0)), rfl, bel.frame _, fun h => by cases h⟩
theorem over : Rows.ShaHexSaid :=
  OpenClaim.holds_of_wide 7 Tryd.f7 rfl rfl rfl rfl rfl rfl rfl ⟨rfl, rfl, rfl, rfl, rfl⟩ rfl rfl rfl rfl rfl (by kernel_rfl) Tryd.func7 (by kernel_rfl)
    (of_decide_eq_true (by kernel_rfl)) (by unfold Func.isWrapper; rw [if_neg (by decide +kernel)]; exact ⟨rfl, rfl⟩)
    (fun os started H enc _ => lifted os started H enc)
theorem proved : Rows.ShaHexCardSaid :=
  Claim7.holds_tied_plain_at .later [] [.data, .data] true Rows.shaHexCard.stood.harness true
    over (fun _ h => by cases h) (by kernel_rfl) (fun _ h => by cases h) shaHex_row_tie rfl ⟨rfl, rfl⟩ (by kernel_rfl) rfl
    (fun f fn hf hfn => by
      obtain rfl : f = 7 := Option.some.inj ((show Tryd.prog.funcNamed "guilloche/guillochelaw03.ShaHex" = some 7 by kernel_rfl).symm.trans hf) |>.symm
      obtain rfl : fn = Tryd.f7 := (Option.some.inj (Tryd.func7.symm.trans hfn)).symm
      exact ⟨by kernel_rfl, fun j t ht => by
        rw [Tryd.params7] at ht
        have hm : t ∈ [9, 9] := by simpa using Array.mem_of_getElem? ht
        have hall : ([9, 9].all fun u => !Tryd.prog.wantsStandIn u) = true := by kernel_rfl
        exact (show Tryd.prog.wantsStandIn t = false by simpa using List.all_eq_true.1 hall t hm)⟩)
    (by kernel_rfl)
end Go.Proofs.YtgeonbkoihegnaaDoor.shaHex

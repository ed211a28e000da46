/-
  PROVED HERE: the law RlpJoins returns true for every input (the items of two rows of them, one behind the other, are both; if the first one is whole, what is wrong is in the second one; of texts of more than 400 bytes the law asks nothing). What errors.errorType holds is as the program lays it (tied).
-/
import Derived.Test.YtgeonbkoihegnaaDoorRlpJoinsP
import Derived.Test.YtgeonbkoihegnaaDoorCards
import Derived.Test.YtgeonbkoihegnaaDoorTie
import Derived.WalkKit
import Derived.ProofKit
import Derived.LaidMore
import Derived.OpenShut
import Derived.ShutString
import Derived.ChangeOld
import Derived.Below
import Derived.Stop.Joined
import Derived.SevenTiedAt
namespace Go.Proofs.YtgeonbkoihegnaaDoor.rlpJoins
open Go.ChangeShapes Go.WideShapes Go.ChangeAt Go.RowKit
open Go.ChangeMaps (open_string shut_string)
set_option linter.unusedVariables false
set_option linter.unusedSimpArgs false
set_option maxHeartbeats 1000000 in
theorem walk (a0 : ByteArray) (a1 : ByteArray) (w0 : a0.size ≤ maxLen) (w1 : a1.size ≤ maxLen) (w : World) (hl : Laid w) :
    Calls Tryd.prog 4 #[.string a0, .string a1] w fun e w' => e = .returned (.bool true) ∧ Below w.heap.size w w' := by
  have HL := Lib.hid hl
  have h2 : 2 < w.heap.size := hl.lt
  clear hl
  by_cases hlen : 400 < a0.size ∨ 400 < a1.size
  · by_cases ha : 400 < a0.size
    all_goals
      first | have hb : 400 < a1.size := hlen.resolve_left ha | skip
      clear hlen
      go_enter Tryd.func4, Tryd.ntmps4
      go_wp2_with fail
      refine (rworks_any _ HL.out).mono ?_
      rintro e w1 ⟨rfl, hb1⟩
      go_wp2_with fail
      go_ret
      exact ⟨rfl, hb1⟩
  · have ha : a0.size ≤ 400 := by omega
    have hb : a1.size ≤ 400 := by omega
    clear hlen
    have I0 := Lib.hid (ritems_any a0)
    have I1 := Lib.hid (ritems_any a1)
    have I2 := Lib.hid (ritems_any (a0 ++ a1))
    have hz2 : (a0 ++ a1).size ≤ 800 := by rw [ByteArray.size_append]; omega
    have HR := Lib.hid (fun xs h => rowsB_append a0 a1 (xs := xs) h)
    have R0 := Lib.hid (rows_few a0)
    have R1 := Lib.hid (rows_few a1)
    obtain ⟨Z, hZ⟩ : ∃ Z, Z = a0 ++ a1 := ⟨_, rfl⟩
    rw [← hZ] at I2 hz2 HR
    have HZ := Lib.hid hZ
    clear hZ
    rcases h0 : rowsB a0 with _ | xs
    · have J0 := Lib.hid h0
      clear h0
      go_enter Tryd.func4, Tryd.ntmps4
      go_wp2_with fail
      refine (rworks_any _ HL.out).mono ?_
      rintro e w1 ⟨rfl, b⟩
      have B1 := Lib.hid ((Bl.start w).call b)
      clear b
      go_wp2_with fail
      refine (I0.out _ (by omega) (laid2_below HL.out B1.out.1 h2)).mono ?_
      rintro e w2 ⟨b, he⟩
      rw [J0.out] at he
      subst he
      have B2 := Lib.hid (B1.out.call b)
      clear b
      go_wp2_with fail
      refine (I1.out _ (by omega) (laid2_below HL.out B2.out.1 h2)).mono ?_
      rintro e w3 ⟨b, he⟩
      obtain ⟨v3, n3, rfl⟩ := items_shape he
      clear he
      have B3 := Lib.hid (B2.out.call b)
      clear b
      go_wp2_with fail
      rw [← HZ.out]
      refine (I2.out _ (by omega) (laid2_below HL.out B3.out.1 h2)).mono ?_
      rintro e w4 ⟨b, he⟩
      obtain ⟨v4, n4, rfl⟩ := items_shape he
      clear he
      have B4 := Lib.hid (B3.out.call b)
      clear b
      go_wp2_with fail
      go_ret
      exact ⟨rfl, B4.out.1⟩
    · have J0 := Lib.hid h0
      have F0 := R0.out xs h0
      clear h0
      rcases h1 : rowsB a1 with _ | ys
      · have J1 := Lib.hid h1
        have J2 : Hid (rowsB Z = none) := Lib.hid (by rw [HR.out xs J0.out, h1]; rfl)
        clear h1
        go_enter Tryd.func4, Tryd.ntmps4
        go_wp2_with fail
        refine (rworks_any _ HL.out).mono ?_
        rintro e w1 ⟨rfl, b⟩
        have B1 := Lib.hid ((Bl.start w).call b)
        clear b
        go_wp2_with fail
        refine (I0.out _ (by omega) (laid2_below HL.out B1.out.1 h2)).mono ?_
        rintro e w2 ⟨b, he⟩
        rw [J0.out] at he
        obtain ⟨x0, rfl, s0⟩ := he
        have S0 := Lib.hid s0
        have B2 := Lib.hid (B1.out.call b)
        clear b s0
        go_wp2_with fail
        refine (I1.out _ (by omega) (laid2_below HL.out B2.out.1 h2)).mono ?_
        rintro e w3 ⟨b, he⟩
        rw [J1.out] at he
        subst he
        have B3 := Lib.hid (B2.out.call b)
        clear b
        go_wp2_with fail
        rw [← HZ.out]
        refine (I2.out _ (by omega) (laid2_below HL.out B3.out.1 h2)).mono ?_
        rintro e w4 ⟨b, he⟩
        rw [J2.out] at he
        subst he
        have B4 := Lib.hid (B3.out.call b)
        clear b
        go_wp2_with fail
        go_ret
        exact ⟨rfl, B4.out.1⟩
      · have J1 := Lib.hid h1
        have F1 := R1.out ys h1
        have J2 : Hid (rowsB Z = some (xs ++ ys)) := Lib.hid (by rw [HR.out xs J0.out, h1]; rfl)
        clear h1
        go_enter Tryd.func4, Tryd.ntmps4
        go_wp2_with fail
        refine (rworks_any _ HL.out).mono ?_
        rintro e w1 ⟨rfl, b⟩
        have B1 := Lib.hid ((Bl.start w).call b)
        clear b
        go_wp2_with fail
        refine (I0.out _ (by omega) (laid2_below HL.out B1.out.1 h2)).mono ?_
        rintro e w2 ⟨b, he⟩
        rw [J0.out] at he
        obtain ⟨x0, rfl, s0⟩ := he
        have S0 := Lib.hid s0
        have B2 := Lib.hid (B1.out.call b)
        clear b s0
        go_wp2_with fail
        refine (I1.out _ (by omega) (laid2_below HL.out B2.out.1 h2)).mono ?_
        rintro e w3 ⟨b, he⟩
        rw [J1.out] at he
        obtain ⟨x1, rfl, s1⟩ := he
        have S1 := Lib.hid s1
        have S01 := Lib.hid (S0.out.below b)
        have B3 := Lib.hid (B2.out.call b)
        clear b s1
        go_wp2_with fail
        rw [← HZ.out]
        refine (I2.out _ (by omega) (laid2_below HL.out B3.out.1 h2)).mono ?_
        rintro e w4 ⟨b, he⟩
        rw [J2.out] at he
        obtain ⟨x2, rfl, s2⟩ := he
        have S2 := Lib.hid s2
        have S02 := Lib.hid (S01.out.below b)
        have S12 := Lib.hid (S1.out.below b)
        have B4 := Lib.hid (B3.out.call b)
        clear b s2
        obtain ⟨A0, k0, rfl, _, _⟩ := id S02.out
        obtain ⟨A1, k1, rfl, _, _⟩ := id S12.out
        obtain ⟨A2, k2, rfl, hS2, _⟩ := id S2.out
        have HS2 := Lib.hid hS2
        clear hS2
        go_wp2_with (first
          | (at_builtin; refine wpList_append_strs rfl _ _ rfl rfl w4.heap.size _ _ [] xs rfl rfl (lit_row w4) (S02.out.below (Segs.Hist.alloc _ _)) (by simp; omega) (by simp) ?_; intro v5 w5 own5 gr5; have C5 := Lib.hid (((Bl.start w4).alloc _).grownRow (lit_row w4) (Nat.le_refl _) gr5); rw [List.nil_append] at own5; have O5 := Lib.hid own5; clear own5 gr5)
          | (at_builtin; refine wpList_append_strs rfl _ _ rfl rfl w4.heap.size _ _ xs ys rfl rfl O5.out (S12.out.below C5.out.1) (by omega) C5.out.2 ?_; intro v6 w6 own6 gr6; have C6 := Lib.hid (C5.out.grownRow O5.out (Nat.le_refl _) gr6); obtain ⟨A6, k6, rfl, s6, _⟩ := Sl.of_own own6; have S6 := Lib.hid s6; clear own6 gr6 s6))
        have SM := same_any A2 A6 k2 k6 (xs ++ ys) (xs ++ ys) w6 (HS2.out.below C6.out.1) S6.out (by simp; omega) (by simp; omega)
        rw [List.length_append] at SM
        have HSM := Lib.hid SM
        clear SM
        refine HSM.out.mono ?_
        rintro e w7 ⟨rfl, n7, rfl⟩
        have D := Lib.hid ((B4.out.call C6.out.1).drewN n7)
        go_wp2_with fail
        go_ret
        exact ⟨ret_bool (by simp), D.out.1⟩
set_option maxRecDepth 100000 in
theorem lifted (os : Os) (started : os.Started) (H : Type) (enc : TypeId × Value → H) :
    ReturnsInHanded {} Tryd.checked os 4 .any (fun w args => (Rows.rlpJoinsSpec.pre enc Tryd.prog Tryd.f4 [] false w args ∧ laidMetH Tryd.prog Rows.rlpJoinsRow.laid w) ∧ sizedMet enc Tryd.prog Tryd.f4 (OpenSpec.ofChange Rows.rlpJoinsSpec) false w args)
      (Rows.rlpJoinsSpec.post enc Tryd.prog Tryd.f4 false true false false) := by
  refine returnsInHanded_of_change_and (C := Tryd.checked) (X := fun w _ => laidMetH Tryd.prog Rows.rlpJoinsRow.laid w) (fun _ _ _ hh h => h.of_heap hh) own started (by kernel_rfl) Tryd.func4
    (ChangeSpec.witness_shaped (enc := enc) (C := Tryd.checked) (os := os) (X := fun w _ => laidMetH Tryd.prog Rows.rlpJoinsRow.laid w) false (World.doorLaid Tryd.prog 400 os) #[.string ByteArray.empty, .string ByteArray.empty] 8 rfl (World.shaped_of_RefB (by kernel_rfl) (by kernel_rfl)) (by kernel_rfl) (by kernel_rfl) (by kernel_rfl) (door_met os _)) ?_
  intro W base args ds gs before hval0 hW _ _ hL _
  have hval : ∀ (j : Nat) t v, Tryd.f4.params[j]? = some t → args[j]? = some v → Value.okWide Tryd.prog W .any base t v := hval0
  have hW' := hW
  obtain ⟨p, q, hA0, hV, rfl, hfz, hnd⟩ := hW
  have hA : DataW.TrodAll enc Tryd.prog W 0 (fun _ => true) true Tryd.f4.params.toList args.toList ds p := hA0
  rw [Tryd.params4] at hA hval
  obtain ⟨v0, vs0, d0, ds0, p0, q0, hargs, rfl, rfl, h0, r0⟩ := trodAll_cons hA
  obtain ⟨v1, vs1, d1, ds1, p1, q1, rfl, rfl, rfl, h1, r1⟩ := trodAll_cons r0
  obtain ⟨rfl, rfl, rfl⟩ := trodAll_nil r1
  obtain rfl : args = #[v0, v1] := by cases args; simp_all
  obtain ⟨rfl, rfl⟩ := trodVars_none hV
  obtain ⟨a0, rfl, rfl, rfl, w0⟩ := open_string Tryd.underlying9 (hval 0 9 v0 rfl rfl) h0
  obtain ⟨a1, rfl, rfl, rfl, w1⟩ := open_string Tryd.underlying9 (hval 1 9 v1 rfl rfl) h1
  have hl : Laid W := laid_of hL
  clear hA0 hval0
  simp only [List.append_nil] at hW'
  refine (walk a0 a1 w0 w1 W hl).mono fun e W' ⟨he, bel⟩ => ?_
  subst he
  exact ⟨_, rfl, _, _, _, [], [], [], hW', trodAll_mk1 (shut_bool Tryd.underlying4 _), (trodAll_cons_mk (shut_string Tryd.underlying9 w0) (trodAll_cons_mk (shut_string Tryd.underlying9 w1) trodAll_mk0)), rfl, bel.frame _, fun h => by cases h⟩
theorem over : Rows.RlpJoinsSaid :=
  OpenClaim.holds_of_wide 4 Tryd.f4 rfl rfl rfl rfl rfl rfl rfl ⟨rfl, rfl, rfl, rfl, rfl⟩ rfl rfl rfl rfl rfl (by kernel_rfl) Tryd.func4 (by kernel_rfl)
    (of_decide_eq_true (by kernel_rfl)) (by unfold Func.isWrapper; rw [if_neg (by decide +kernel)]; exact ⟨rfl, rfl⟩)
    (fun os started H enc _ => lifted os started H enc)
theorem proved : Rows.RlpJoinsCardSaid :=
  Claim7.holds_tied_plain_at .later [] [.handle] true Rows.rlpJoinsCard.stood.harness true
    over (fun _ h => by cases h) (by kernel_rfl) (fun _ h => by cases h) rlpJoins_row_tie rfl ⟨rfl, rfl⟩ (by kernel_rfl) rfl
    (fun f fn hf hfn => by
      obtain rfl : f = 4 := Option.some.inj ((show Tryd.prog.funcNamed "guilloche/guillochelaw02.RlpJoins" = some 4 by kernel_rfl).symm.trans hf) |>.symm
      obtain rfl : fn = Tryd.f4 := (Option.some.inj (Tryd.func4.symm.trans hfn)).symm
      exact ⟨by kernel_rfl, fun j t ht => by
        rw [Tryd.params4] at ht
        have hm : t ∈ [9, 9] := by simpa using Array.mem_of_getElem? ht
        have hall : ([9, 9].all fun u => !Tryd.prog.wantsStandIn u) = true := by kernel_rfl
        exact (show Tryd.prog.wantsStandIn t = false by simpa using List.all_eq_true.1 hall t hm)⟩)
    (by kernel_rfl)
end Go.Proofs.YtgeonbkoihegnaaDoor.rlpJoins

/-
  PROVED HERE: the law NibbleCommon returns true for every input (what two texts have in common is the longest beginning of both; of texts of more than 200 bytes the law asks nothing). No condition.
-/
import Derived.Test.YtgeonbkoihegnaaNibMore
import Derived.WalkKit
import Derived.ProofKit
import Derived.OpenShut
import Derived.ShutString
import Derived.ChangeOld
import Derived.Below
namespace Go.Proofs.Ytgeonbkoihegnaa.nibbleCommon
open Go.ChangeShapes Go.WideShapes Go.ChangeAt Go.RowKit
open Go.ChangeMaps (open_string shut_string)
set_option linter.unusedVariables false
theorem own : ownKnob Try.prog.godebug = none := by kernel_rfl
set_option maxHeartbeats 1000000 in
theorem walk (a0 : ByteArray) (a1 : ByteArray) (w0 : a0.size ≤ maxLen) (w1 : a1.size ≤ maxLen) (w : World) :
    Calls Try.prog 5 #[.string a0, .string a1] w fun e w' => e = .returned (.bool true) ∧ Below w.heap.size w w' := by
  by_cases hlen : 200 < a0.size ∨ 200 < a1.size
  · by_cases ha : 200 < a0.size
    all_goals
      first | have hb : 200 < a1.size := hlen.resolve_left ha | skip
      clear hlen
      go_enter Try.func5, Try.ntmps5
      go_wp2_with fail
      refine (works_any _).mono ?_
      rintro e w1 ⟨rfl, hb1⟩
      go_wp2_with fail
      go_ret
      exact ⟨rfl, hb1⟩
  · have ha : a0.size ≤ 200 := by omega
    have hb : a1.size ≤ 200 := by omega
    obtain ⟨n, hn⟩ : ∃ n, n = Nib.common a0.data.toList a1.data.toList := ⟨_, rfl⟩
    have hna : n ≤ a0.size := by rw [hn]; simpa using (Nib.common_le a0.data.toList a1.data.toList).1
    have hnb : n ≤ a1.size := by rw [hn]; simpa using (Nib.common_le a0.data.toList a1.data.toList).2
    have hx : (a0.extract 0 n) = (a1.extract 0 n) := by
      apply ByteArray.ext
      apply Array.toList_inj.1
      rw [Lib.extract_data, Lib.extract_data]
      simp only [List.drop_zero, Nat.sub_zero]
      rw [hn]
      exact Nib.common_take _ _
    have hcm : Nib.common a1.data.toList a0.data.toList = n := by rw [hn, Nib.common_comm]
    have hnx : ∀ (h1 : n < a0.size) (h2 : n < a1.size), a0[n] ≠ a1[n] := by
      intro h1 h2
      have := Nib.common_next a0.data.toList a1.data.toList (by rw [← hn]; simpa using h1) (by rw [← hn]; simpa using h2)
      rw [← byte_get a0 n h1, ← byte_get a1 n h2]
      simpa only [← hn] using this
    have ts : ((a0.extract 0 n).toList == (a1.extract 0 n).toList) = true := by rw [hx]; simp
    have HN := Lib.hid hn
    have HX := Lib.hid hx
    have HC := Lib.hid hcm
    have HNX := Lib.hid hnx
    clear hn hx hcm hnx hlen
    have hcase : n = a0.size ∨ (n < a0.size ∧ n = a1.size) ∨ (n < a0.size ∧ n < a1.size) := by omega
    rcases hcase with hc | ⟨hc1, hc⟩ | ⟨hc1, hc2⟩
    · have t1 : ((n : Int) == (a0.size : Int)) = true := by simp [hc]
      clear hc
      go_enter Try.func5, Try.ntmps5
      go_wp2_with fail
      refine (works_any _).mono ?_
      rintro e w1 ⟨rfl, hb1⟩
      go_wp2_with fail
      refine (common_quiet a0 a1 _ (by omega) (by omega)).mono ?_
      rintro e w2 ⟨rfl, q2, rfl⟩
      rw [← HN.out]
      go_wp2_with fail
      go_quiet (fail)
      go_wp2_with fail
      go_quiet (first | (go_at_call_of 15 (Value.string a1); exact quietly (common_turn a0 a1 n HC.out _ ha hb)) | (go_at_call 15; exact quietly (common_same a0 _ ha)))
      go_wp2_with fail
      go_ret
      exact ⟨rfl, (((((Bl.start w).call hb1).drewN _).drewN _).drewN _).1⟩
    · have t1 : ((n : Int) == (a0.size : Int)) = false := by simp; omega
      have t2 : ((n : Int) == (a1.size : Int)) = true := by simp [hc]
      clear hc
      go_enter Try.func5, Try.ntmps5
      go_wp2_with fail
      refine (works_any _).mono ?_
      rintro e w1 ⟨rfl, hb1⟩
      go_wp2_with fail
      refine (common_quiet a0 a1 _ (by omega) (by omega)).mono ?_
      rintro e w2 ⟨rfl, q2, rfl⟩
      rw [← HN.out]
      go_wp2_with fail
      go_quiet (fail)
      go_wp2_with fail
      go_quiet (first | (go_at_call_of 15 (Value.string a1); exact quietly (common_turn a0 a1 n HC.out _ ha hb)) | (go_at_call 15; exact quietly (common_same a0 _ ha)))
      go_wp2_with fail
      go_ret
      exact ⟨rfl, (((((Bl.start w).call hb1).drewN _).drewN _).drewN _).1⟩
    · have t1 : ((n : Int) == (a0.size : Int)) = false := by simp; omega
      have t2 : ((n : Int) == (a1.size : Int)) = false := by simp; omega
      have t3 : ((a0[n].toNat : Int) != (a1[n].toNat : Int)) = true := by
        rw [bne_iff_ne]
        intro e
        exact HNX.out hc1 hc2 (UInt8.toNat_inj.1 (by exact_mod_cast e))
      go_enter Try.func5, Try.ntmps5
      go_wp2_with fail
      refine (works_any _).mono ?_
      rintro e w1 ⟨rfl, hb1⟩
      go_wp2_with fail
      refine (common_quiet a0 a1 _ (by omega) (by omega)).mono ?_
      rintro e w2 ⟨rfl, q2, rfl⟩
      rw [← HN.out]
      go_wp2_with fail
      go_quiet (fail)
      go_wp2_with fail
      go_quiet (first | (go_at_call_of 15 (Value.string a1); exact quietly (common_turn a0 a1 n HC.out _ ha hb)) | (go_at_call 15; exact quietly (common_same a0 _ ha)))
      go_wp2_with fail
      go_ret
      exact ⟨rfl, (((((Bl.start w).call hb1).drewN _).drewN _).drewN _).1⟩
set_option maxRecDepth 100000 in
theorem lifted (os : Os) (started : os.Started) (H : Type) (enc : TypeId × Value → H) :
    ReturnsInHanded {} Try.checked os 5 .any (Rows.nibbleCommonSpec.pre6 enc Try.prog Try.f5 Rows.nibbleCommonRow.domain false) (Rows.nibbleCommonSpec.post enc Try.prog Try.f5 false true false false) := by
  refine returnsInHanded_of_change (C := Try.checked) own started (by kernel_rfl) Try.func5
    (ChangeSpec.witness6 (enc := enc) (C := Try.checked) false ⟨#[], #[.string ByteArray.empty, .string ByteArray.empty], []⟩ 8 (by kernel_rfl) (by kernel_rfl) (by kernel_rfl) (by kernel_rfl)) ?_
  intro W base args ds gs before hval0 hW hcnd _
  have hval : ∀ (j : Nat) t v, Try.f5.params[j]? = some t → args[j]? = some v → Value.okWide Try.prog W .any base t v := hval0
  have hW' := hW
  obtain ⟨p, q, hA0, hV, rfl, hfz, hnd⟩ := hW
  have hA : DataW.TrodAll enc Try.prog W 0 (fun _ => true) true Try.f5.params.toList args.toList ds p := hA0
  rw [Try.params5] at hA hval
  obtain ⟨v0, vs0, d0, ds0, p0, q0, hargs, rfl, rfl, h0, r0⟩ := trodAll_cons hA
  obtain ⟨v1, vs1, d1, ds1, p1, q1, rfl, rfl, rfl, h1, r1⟩ := trodAll_cons r0
  obtain ⟨rfl, rfl, rfl⟩ := trodAll_nil r1
  obtain rfl : args = #[v0, v1] := by cases args; simp_all
  obtain ⟨rfl, rfl⟩ := trodVars_none hV
  obtain ⟨a0, rfl, rfl, rfl, w0⟩ := open_string Try.underlying9 (hval 0 9 v0 rfl rfl) h0
  obtain ⟨a1, rfl, rfl, rfl, w1⟩ := open_string Try.underlying9 (hval 1 9 v1 rfl rfl) h1
  clear hA0 hval0
  simp only [List.append_nil] at hW'
  refine (walk a0 a1 w0 w1 W).mono fun e W' ⟨he, bel⟩ => ?_
  subst he
  exact ⟨_, rfl, _, _, _, [], [], [], hW', trodAll_mk1 (shut_bool Try.underlying4 _), (trodAll_cons_mk (shut_string Try.underlying9 w0) (trodAll_cons_mk (shut_string Try.underlying9 w1) trodAll_mk0)), rfl, bel.frame _, fun h => by cases h⟩
theorem over : Rows.nibbleCommonRow.holds Try.pinned (OpenSpec.ofChange Rows.nibbleCommonSpec) :=
  OpenClaim.holds_of_wide 5 Try.f5 rfl rfl rfl rfl rfl rfl rfl ⟨rfl, rfl, rfl, rfl, rfl⟩ rfl rfl rfl rfl rfl (by kernel_rfl) Try.func5 (by kernel_rfl)
    (of_decide_eq_true (by kernel_rfl)) (by unfold Func.isWrapper; rw [if_neg (by decide +kernel)]; exact ⟨rfl, rfl⟩)
    (fun os started H enc _ => lifted os started H enc)
theorem proved : Rows.NibbleCommonSaid := over
end Go.Proofs.Ytgeonbkoihegnaa.nibbleCommon

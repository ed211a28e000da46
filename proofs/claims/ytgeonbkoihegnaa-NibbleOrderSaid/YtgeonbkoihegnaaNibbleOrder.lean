/-
  PROVED HERE: the law NibbleOrder returns true for every input (a text is ahead of another one just if its path is; of texts of more than 200 bytes the law asks nothing). No condition.
-/
import Derived.Test.YtgeonbkoihegnaaNibRef
import Derived.WalkKit
import Derived.ProofKit
import Derived.OpenShut
import Derived.ShutString
import Derived.ChangeOld
import Derived.Below
namespace Go.Proofs.Ytgeonbkoihegnaa.nibbleOrder
open Go.ChangeShapes Go.WideShapes Go.ChangeAt Go.RowKit
open Go.ChangeMaps (open_string shut_string)
set_option linter.unusedVariables false
theorem own : ownKnob Try.prog.godebug = none := by kernel_rfl
set_option maxHeartbeats 1000000 in
theorem walk (a0 : ByteArray) (a1 : ByteArray) (w0 : a0.size ≤ maxLen) (w1 : a1.size ≤ maxLen) (w : World) :
    Calls Try.prog 4 #[.string a0, .string a1] w fun e w' => e = .returned (.bool true) ∧ Below w.heap.size w w' := by
  by_cases hlen : 200 < a0.size ∨ 200 < a1.size
  · by_cases ha : 200 < a0.size
    all_goals
      first | have hb : 200 < a1.size := hlen.resolve_left ha | skip
      clear hlen
      go_enter Try.func4, Try.ntmps4
      go_wp2_with fail
      refine (works_any _).mono ?_
      rintro e w1 ⟨rfl, hb1⟩
      go_wp2_with fail
      go_ret
      exact ⟨rfl, hb1⟩
  · have ha : a0.size ≤ 200 := by omega
    have hb : a1.size ≤ 200 := by omega
    have hsz : (Nib.bs (Nib.path a0.data.toList)).size = 2 * a0.size := by rw [Nib.bs_size, Nib.path_length, Nib.len_of]
    have hs1 : ((((Nib.bs (Nib.path a0.data.toList)).size : Nat) : Int) == 2 * (a0.size : Int)) = true := by rw [hsz]; simp
    have hs2 : (Nib.bs (Nib.path a0.data.toList)).size ≤ 400 := by omega
    have hlt : Op.bytesLess (Nib.bs (Nib.path a0.data.toList)).toList (Nib.bs (Nib.path a1.data.toList)).toList = Op.bytesLess a0.toList a1.toList := by
      rw [ByteArray.toList_eq, ByteArray.toList_eq, ByteArray.toList_eq, ByteArray.toList_eq, Nib.bs_data, Nib.bs_data]
      exact path_less _ _
    have HLT := Lib.hid hlt
    clear hlen hsz hlt
    obtain ⟨p, hp⟩ : ∃ p, p = Nib.bs (Nib.path a0.data.toList) := ⟨_, rfl⟩
    obtain ⟨q, hq⟩ : ∃ q, q = Nib.bs (Nib.path a1.data.toList) := ⟨_, rfl⟩
    rw [← hp] at hs1 hs2
    have hv : Nib.valid p.data.toList = true := by rw [hp, Nib.bs_data, Nib.valid_path]
    have HV := Lib.hid hv
    rw [← hp, ← hq] at HLT
    have HP := Lib.hid hp
    have HQ := Lib.hid hq
    clear hp hq hv
    go_enter Try.func4, Try.ntmps4
    go_wp2_with fail
    refine (works_any _).mono ?_
    rintro e w1 ⟨rfl, hb1⟩
    go_wp2_with fail
    refine (path_any a0 _ (by omega)).mono ?_
    rintro e w2 ⟨rfl, hb2⟩
    go_wp2_with fail
    refine (key_path a0 _ (by omega)).mono ?_
    rintro e w3 ⟨rfl, hb3⟩
    rw [← HP.out]
    go_wp2_with fail
    refine (valid_any p _ (by omega)).mono ?_
    rintro e w4 ⟨rfl, rfl⟩
    rw [HV.out]
    go_wp2_with fail
    refine (path_any a1 _ (by omega)).mono ?_
    rintro e w5 ⟨rfl, hb5⟩
    rw [← HQ.out]
    go_wp2_with fail
    go_ret
    exact ⟨ret_bool (by rw [HLT.out]; simp), ((((Bl.start w).call hb1).call hb2).call hb3).call hb5 |>.1⟩
set_option maxRecDepth 100000 in
theorem lifted (os : Os) (started : os.Started) (H : Type) (enc : TypeId × Value → H) :
    ReturnsInHanded {} Try.checked os 4 .any (Rows.nibbleOrderSpec.pre6 enc Try.prog Try.f4 Rows.nibbleOrderRow.domain false) (Rows.nibbleOrderSpec.post enc Try.prog Try.f4 false true false false) := by
  refine returnsInHanded_of_change (C := Try.checked) own started (by kernel_rfl) Try.func4
    (ChangeSpec.witness6 (enc := enc) (C := Try.checked) false ⟨#[], #[.string ByteArray.empty, .string ByteArray.empty], []⟩ 8 (by kernel_rfl) (by kernel_rfl) (by kernel_rfl) (by kernel_rfl)) ?_
  intro W base args ds gs before hval0 hW hcnd _
  have hval : ∀ (j : Nat) t v, Try.f4.params[j]? = some t → args[j]? = some v → Value.okWide Try.prog W .any base t v := hval0
  have hW' := hW
  obtain ⟨p, q, hA0, hV, rfl, hfz, hnd⟩ := hW
  have hA : DataW.TrodAll enc Try.prog W 0 (fun _ => true) true Try.f4.params.toList args.toList ds p := hA0
  rw [Try.params4] at hA hval
  obtain ⟨v0, vs0, d0, ds0, p0, q0, hargs, rfl, rfl, h0, r0⟩ := trodAll_cons hA
  obtain ⟨v1, vs1, d1, ds1, p1, q1, rfl, rfl, rfl, h1, r1⟩ := trodAll_cons r0
  obtain ⟨rfl, rfl, rfl⟩ := trodAll_nil r1
  obtain rfl : args = #[v0, v1] := by cases args; simp_all
  obtain ⟨rfl, rfl⟩ := trodVars_none hV
  obtain ⟨a0, rfl, rfl, rfl, w0⟩ := open_string Try.underlying9 (hval 0 9 v0 rfl rfl) h0
  obtain ⟨a1, rfl, rfl, rfl, w1⟩ := open_string Try.underlying9 (hval 1 9 v1 rfl rfl) h1
  clear hA0 hval0
  simp only [List.append_nil] at hW'
  refine (walk a0 a1 w0 w1 W).mono fun e W' ⟨he, bel⟩ => ?_
  subst he
  exact ⟨_, rfl, _, _, _, [], [], [], hW', trodAll_mk1 (shut_bool Try.underlying4 _), (trodAll_cons_mk (shut_string Try.underlying9 w0) (trodAll_cons_mk (shut_string Try.underlying9 w1) trodAll_mk0)), rfl, bel.frame _, fun h => by cases h⟩
theorem over : Rows.nibbleOrderRow.holds Try.pinned (OpenSpec.ofChange Rows.nibbleOrderSpec) :=
  OpenClaim.holds_of_wide 4 Try.f4 rfl rfl rfl rfl rfl rfl rfl ⟨rfl, rfl, rfl, rfl, rfl⟩ rfl rfl rfl rfl rfl (by kernel_rfl) Try.func4 (by kernel_rfl)
    (of_decide_eq_true (by kernel_rfl)) (by unfold Func.isWrapper; rw [if_neg (by decide +kernel)]; exact ⟨rfl, rfl⟩)
    (fun os started H enc _ => lifted os started H enc)
theorem proved : Rows.NibbleOrderSaid := over
end Go.Proofs.Ytgeonbkoihegnaa.nibbleOrder

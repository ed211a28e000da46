/-
  PROVED HERE: the law RlpCuts returns true for every input (an item that ends too early, or has something behind it, is none; two texts are one item just if they are the same; of texts of more than 400 bytes the law asks nothing). What errors.errorType holds is as the program lays it (tied).
-/
import Derived.Test.YtgeonbkoihegnaaDoorRlpCutsP
import Derived.Test.YtgeonbkoihegnaaDoorCards
import Derived.Test.YtgeonbkoihegnaaDoorTie
import Derived.WalkKit
import Derived.ProofKit
import Derived.LaidMore
import Derived.OpenShut
import Derived.ShutString
import Derived.ChangeOld
import Derived.Below
import Derived.Stop.Joined
import Derived.SevenTiedAt
namespace Go.Proofs.YtgeonbkoihegnaaDoor.rlpCuts
open Go.ChangeShapes Go.WideShapes Go.ChangeAt Go.RowKit
open Go.ChangeMaps (open_string shut_string)
set_option linter.unusedVariables false
set_option linter.unusedSimpArgs false
set_option maxHeartbeats 1000000 in
theorem walk (a0 : ByteArray) (a1 : ByteArray) (a2 : Int) (w0 : a0.size ≤ maxLen) (w1 : a1.size ≤ maxLen) (w2 : (Lit.int .u16 a2).wf = true) (w : World) (hl : Laid w) :
    Calls Tryd.prog 5 #[.string a0, .string a1, .int .u16 a2] w fun e w' => e = .returned (.bool true) ∧ Below w.heap.size w w' := by
  have HL := Lib.hid hl
  have h2 : 2 < w.heap.size := hl.lt
  clear hl
  have h0 : 0 ≤ a2 ∧ a2 ≤ 65535 := by
    have g0 : IntKind.u16.min ≤ a2 ∧ a2 ≤ IntKind.u16.max := by simpa [Lit.wf] using w2
    exact g0
  obtain ⟨p, rfl⟩ : ∃ p : Nat, a2 = p := ⟨a2.toNat, by omega⟩
  have hp : p ≤ 65535 := by omega
  clear h0 w2
  by_cases hlen : 400 < a0.size ∨ 400 < a1.size
  · by_cases ha : 400 < a0.size
    all_goals
      first | have hb : 400 < a1.size := hlen.resolve_left ha | skip
      clear hlen
      go_enter Tryd.func5, Tryd.ntmps5
      go_wp2_with fail
      refine (rworks_any _ HL.out).mono ?_
      rintro e w1 ⟨rfl, hb1⟩
      go_wp2_with fail
      go_ret
      exact ⟨rfl, hb1⟩
  · have ha : a0.size ≤ 400 := by omega
    have hb : a1.size ≤ 400 := by omega
    clear hlen
    have la := Rlp.text_most a0.data.toList
    have lb := Rlp.text_most a1.data.toList
    have pa := Rlp.text_pos a0.data.toList
    rw [Nib.len_of] at la lb
    obtain ⟨f, n, f1, f2, _⟩ := Rlp.first_whole a0.data.toList (by rw [Nib.len_of]; omega)
    obtain ⟨g, m, g1, g2, _⟩ := Rlp.first_list [Rlp.text a0.data.toList, Rlp.text a1.data.toList] (by simp; omega)
    have hp192 := Rlp.head_pos 192 (Rlp.text a0.data.toList ++ Rlp.text a1.data.toList).length
    have hm192 := Rlp.head_length 192 (Rlp.text a0.data.toList ++ Rlp.text a1.data.toList).length
    have hLl : (Rlp.list [Rlp.text a0.data.toList, Rlp.text a1.data.toList]).length = (Rlp.head 192 (Rlp.text a0.data.toList ++ Rlp.text a1.data.toList).length).length + ((Rlp.text a0.data.toList).length + (Rlp.text a1.data.toList).length) := by simp [Rlp.list]
    have k1 : p % (Rlp.list [Rlp.text a0.data.toList, Rlp.text a1.data.toList]).length < (Rlp.list [Rlp.text a0.data.toList, Rlp.text a1.data.toList]).length := Nat.mod_lt _ (by omega)
    have k2 : p % (Rlp.text a0.data.toList).length < (Rlp.text a0.data.toList).length := Nat.mod_lt _ (by omega)
    have T0 := Lib.hid (fun W : World => text_any a0 W (by omega))
    have T1 := Lib.hid (fun W : World => text_any a1 W (by omega))
    have LT := Lib.hid (fun W : World => list_two (Nib.bs (Rlp.text a0.data.toList)) (Nib.bs (Rlp.text a1.data.toList)) W (by rw [Nib.bs_size]; omega) (by rw [Nib.bs_size]; omega))
    have C1 := Lib.hid (split_cut g1 g2 _ k1 (by omega))
    have C2 := Lib.hid (check_cut f1 f2 _ k2 (by omega))
    have C3 := Lib.hid (check_more (r := Rlp.text a0.data.toList) g1 g2 pa (by omega))
    have C4 := Lib.hid (check_two a0.data.toList a1.data.toList (by rw [Nib.len_of]; omega) (by rw [Nib.len_of]; omega))
    have HE := Lib.hid (texts_eq a0 a1 (by omega) (by omega))
    simp only [Nib.bs_data] at LT
    obtain ⟨S, hS⟩ : ∃ S, S = Nib.bs (Rlp.text a0.data.toList) := ⟨_, rfl⟩
    obtain ⟨T, hT⟩ : ∃ T, T = Nib.bs (Rlp.text a1.data.toList) := ⟨_, rfl⟩
    obtain ⟨L, hL⟩ : ∃ L, L = Nib.bs (Rlp.list [Rlp.text a0.data.toList, Rlp.text a1.data.toList]) := ⟨_, rfl⟩
    have zS : S.size = (Rlp.text a0.data.toList).length := by rw [hS, Nib.bs_size]
    have zL : L.size = (Rlp.list [Rlp.text a0.data.toList, Rlp.text a1.data.toList]).length := by rw [hL, Nib.bs_size]
    rw [← zS] at C2
    rw [← zL] at C1
    simp only [← hS, ← hT, ← hL] at T0 T1 LT C1 C2 C3 C4 HE
    have sL1 : 1 ≤ L.size := by omega
    have sL2 : L.size ≤ 2000 := by omega
    have sS1 : 1 ≤ S.size := by omega
    have sS2 : S.size ≤ 2000 := by omega
    have q1 : p % L.size < L.size := Nat.mod_lt _ (by omega)
    have q2 : p % S.size < S.size := Nat.mod_lt _ (by omega)
    clear hS hT hL zS zL hLl k1 k2 la lb pa f1 f2 g1 g2 hp192 hm192
    go_enter Tryd.func5, Tryd.ntmps5
    go_wp2_with fail
    refine (rworks_any _ HL.out).mono ?_
    rintro e w1 ⟨rfl, b⟩
    have B1 := Lib.hid ((Bl.start w).call b)
    clear b
    go_wp2_with fail
    refine (T0.out _).mono ?_
    rintro e w2 ⟨rfl, b⟩
    have B2 := Lib.hid (B1.out.call b)
    clear b
    go_wp2_with fail
    refine (T1.out _).mono ?_
    rintro e w3 ⟨rfl, b⟩
    have B3 := Lib.hid (B2.out.call b)
    clear b
    go_wp2_with fail
    refine (LT.out _).mono ?_
    rintro e w4 ⟨rfl, b⟩
    have B4 := Lib.hid (B3.out.call b)
    clear b
    go_wp2_with fail
    refine (C1.out _ (laid2_below HL.out B4.out.1 h2)).mono ?_
    rintro e w5 ⟨rfl, b⟩
    have B5 := Lib.hid (B4.out.call b)
    clear b
    go_wp2_with fail
    refine (C2.out _ (laid2_below HL.out B5.out.1 h2)).mono ?_
    rintro e w6 ⟨rfl, b⟩
    have B6 := Lib.hid (B5.out.call b)
    clear b
    go_wp2_with fail
    refine (C3.out _ (laid2_below HL.out B6.out.1 h2)).mono ?_
    rintro e w7 ⟨rfl, b⟩
    have B7 := Lib.hid (B6.out.call b)
    clear b
    go_wp2_with fail
    refine (C4.out _ (laid2_below HL.out B7.out.1 h2)).mono ?_
    rintro e w8 ⟨rfl, b⟩
    have B8 := Lib.hid (B7.out.call b)
    clear b
    go_wp2_with fail
    refine (T1.out _).mono ?_
    rintro e w9 ⟨rfl, b⟩
    have B9 := Lib.hid (B8.out.call b)
    clear b
    go_wp2_with fail
    go_ret
    exact ⟨ret_bool (by rw [HE.out]; simp), B9.out.1⟩
set_option maxRecDepth 100000 in
theorem lifted (os : Os) (started : os.Started) (H : Type) (enc : TypeId × Value → H) :
    ReturnsInHanded {} Tryd.checked os 5 .any (fun w args => (Rows.rlpCutsSpec.pre enc Tryd.prog Tryd.f5 [] false w args ∧ laidMetH Tryd.prog Rows.rlpCutsRow.laid w) ∧ sizedMet enc Tryd.prog Tryd.f5 (OpenSpec.ofChange Rows.rlpCutsSpec) false w args)
      (Rows.rlpCutsSpec.post enc Tryd.prog Tryd.f5 false true false false) := by
  refine returnsInHanded_of_change_and (C := Tryd.checked) (X := fun w _ => laidMetH Tryd.prog Rows.rlpCutsRow.laid w) (fun _ _ _ hh h => h.of_heap hh) own started (by kernel_rfl) Tryd.func5
    (ChangeSpec.witness_shaped (enc := enc) (C := Tryd.checked) (os := os) (X := fun w _ => laidMetH Tryd.prog Rows.rlpCutsRow.laid w) false (World.doorLaid Tryd.prog 400 os) #[.string ByteArray.empty, .string ByteArray.empty, .int .u16 0] 8 rfl (World.shaped_of_RefB (by kernel_rfl) (by kernel_rfl)) (by kernel_rfl) (by kernel_rfl) (by kernel_rfl) (door_met os _)) ?_
  intro W base args ds gs before hval0 hW _ _ hL _
  have hval : ∀ (j : Nat) t v, Tryd.f5.params[j]? = some t → args[j]? = some v → Value.okWide Tryd.prog W .any base t v := hval0
  have hW' := hW
  obtain ⟨p, q, hA0, hV, rfl, hfz, hnd⟩ := hW
  have hA : DataW.TrodAll enc Tryd.prog W 0 (fun _ => true) true Tryd.f5.params.toList args.toList ds p := hA0
  rw [Tryd.params5] at hA hval
  obtain ⟨v0, vs0, d0, ds0, p0, q0, hargs, rfl, rfl, h0, r0⟩ := trodAll_cons hA
  obtain ⟨v1, vs1, d1, ds1, p1, q1, rfl, rfl, rfl, h1, r1⟩ := trodAll_cons r0
  obtain ⟨v2, vs2, d2, ds2, p2, q2, rfl, rfl, rfl, h2, r2⟩ := trodAll_cons r1
  obtain ⟨rfl, rfl, rfl⟩ := trodAll_nil r2
  obtain rfl : args = #[v0, v1, v2] := by cases args; simp_all
  obtain ⟨rfl, rfl⟩ := trodVars_none hV
  obtain ⟨a0, rfl, rfl, rfl, w0⟩ := open_string Tryd.underlying9 (hval 0 9 v0 rfl rfl) h0
  obtain ⟨a1, rfl, rfl, rfl, w1⟩ := open_string Tryd.underlying9 (hval 1 9 v1 rfl rfl) h1
  obtain ⟨a2, rfl, rfl, rfl, w2⟩ := open_int Tryd.underlying34 (hval 2 34 v2 rfl rfl) h2
  have hl : Laid W := laid_of hL
  clear hA0 hval0
  simp only [List.append_nil] at hW'
  refine (walk a0 a1 a2 w0 w1 w2 W hl).mono fun e W' ⟨he, bel⟩ => ?_
  subst he
  exact ⟨_, rfl, _, _, _, [], [], [], hW', trodAll_mk1 (shut_bool Tryd.underlying4 _), (trodAll_cons_mk (shut_string Tryd.underlying9 w0) (trodAll_cons_mk (shut_string Tryd.underlying9 w1) (trodAll_cons_mk (shut_int Tryd.underlying34 w2) trodAll_mk0))), rfl, bel.frame _, fun h => by cases h⟩
theorem over : Rows.RlpCutsSaid :=
  OpenClaim.holds_of_wide 5 Tryd.f5 rfl rfl rfl rfl rfl rfl rfl ⟨rfl, rfl, rfl, rfl, rfl⟩ rfl rfl rfl rfl rfl (by kernel_rfl) Tryd.func5 (by kernel_rfl)
    (of_decide_eq_true (by kernel_rfl)) (by unfold Func.isWrapper; rw [if_neg (by decide +kernel)]; exact ⟨rfl, rfl⟩)
    (fun os started H enc _ => lifted os started H enc)
theorem proved : Rows.RlpCutsCardSaid :=
  Claim7.holds_tied_plain_at .later [] [.handle] true Rows.rlpCutsCard.stood.harness true
    over (fun _ h => by cases h) (by kernel_rfl) (fun _ h => by cases h) rlpCuts_row_tie rfl ⟨rfl, rfl⟩ (by kernel_rfl) rfl
    (fun f fn hf hfn => by
      obtain rfl : f = 5 := Option.some.inj ((show Tryd.prog.funcNamed "guilloche/guillochelaw02.RlpCuts" = some 5 by kernel_rfl).symm.trans hf) |>.symm
      obtain rfl : fn = Tryd.f5 := (Option.some.inj (Tryd.func5.symm.trans hfn)).symm
      exact ⟨by kernel_rfl, fun j t ht => by
        rw [Tryd.params5] at ht
        have hm : t ∈ [9, 9, 34] := by simpa using Array.mem_of_getElem? ht
        have hall : ([9, 9, 34].all fun u => !Tryd.prog.wantsStandIn u) = true := by kernel_rfl
        exact (show Tryd.prog.wantsStandIn t = false by simpa using List.all_eq_true.1 hall t hm)⟩)
    (by kernel_rfl)
end Go.Proofs.YtgeonbkoihegnaaDoor.rlpCuts

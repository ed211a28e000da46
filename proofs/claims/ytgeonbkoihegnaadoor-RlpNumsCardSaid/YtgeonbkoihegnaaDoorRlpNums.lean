/-
  PROVED HERE: the law RlpNums returns true for every input (a number is read again, and nothing else is; a greater one has no fewer bytes; of texts of more than 400 bytes the law asks nothing). What errors.errorType holds is as the program lays it (tied).
-/
import Derived.Test.YtgeonbkoihegnaaDoorRlpLaid
import Derived.Test.YtgeonbkoihegnaaDoorCards
import Derived.Test.YtgeonbkoihegnaaDoorTie
import Derived.WalkKit
import Derived.ProofKit
import Derived.LaidMore
import Derived.OpenShut
import Derived.ShutString
import Derived.ChangeOld
import Derived.Below
import Derived.Stop.Joined
import Derived.SevenTiedAt
namespace Go.Proofs.YtgeonbkoihegnaaDoor.rlpNums
open Go.ChangeShapes Go.WideShapes Go.ChangeAt Go.RowKit
open Go.ChangeMaps (open_string shut_string)
set_option linter.unusedVariables false
set_option linter.unusedSimpArgs false
set_option maxHeartbeats 1000000 in
theorem walk (a0 : Int) (a1 : Int) (a2 : ByteArray) (w0 : (Lit.int .u64 a0).wf = true) (w1 : (Lit.int .u64 a1).wf = true) (w2 : a2.size ≤ maxLen) (w : World) (hl : Laid w) :
    Calls Tryd.prog 3 #[.int .u64 a0, .int .u64 a1, .string a2] w fun e w' => e = .returned (.bool true) ∧ Below w.heap.size w w' := by
  have HL := Lib.hid hl
  have h2 : 2 < w.heap.size := hl.lt
  clear hl
  have h0 : 0 ≤ a0 ∧ a0 ≤ 18446744073709551615 := by
    have g0 : IntKind.u64.min ≤ a0 ∧ a0 ≤ IntKind.u64.max := by simpa [Lit.wf] using w0
    exact g0
  have h1 : 0 ≤ a1 ∧ a1 ≤ 18446744073709551615 := by
    have g1 : IntKind.u64.min ≤ a1 ∧ a1 ≤ IntKind.u64.max := by simpa [Lit.wf] using w1
    exact g1
  obtain ⟨n, rfl⟩ : ∃ n : Nat, a0 = n := ⟨a0.toNat, by omega⟩
  obtain ⟨m, rfl⟩ : ∃ m : Nat, a1 = m := ⟨a1.toNat, by omega⟩
  have hn : n < 18446744073709551616 := by omega
  have hm : m < 18446744073709551616 := by omega
  clear h0 h1 w0 w1
  by_cases hlen : 400 < a2.size
  · clear hn hm
    go_enter Tryd.func3, Tryd.ntmps3
    go_wp2_with fail
    refine (rworks_any _ HL.out).mono ?_
    rintro e w1 ⟨rfl, hb1⟩
    go_wp2_with fail
    go_ret
    exact ⟨rfl, hb1⟩
  · have hs : a2.size ≤ 400 := by omega
    clear hlen
    have hnum := fun W : World => num_any n W hn
    have hnumm := fun W : World => num_any m W hm
    have hl8 := Rlp.digs_length n
    have hnl : (Nib.bs (Rlp.num n)).size ≤ 9 := by rw [Nib.bs_size]; exact Rlp.num_length n
    have hml : (Nib.bs (Rlp.num m)).size ≤ 9 := by rw [Nib.bs_size]; exact Rlp.num_length m
    have hget := fun W : World => getnum_any (Nib.bs (Rlp.num n)) W (by omega)
    rw [Nib.bs_data, Rlp.getnum_num n hn] at hget
    have hgs := fun W : World => getnum_any a2 W (by omega)
    have hmono : n ≤ m → (Nib.bs (Rlp.num n)).size ≤ (Nib.bs (Rlp.num m)).size := fun h => by rw [Nib.bs_size, Nib.bs_size]; exact Rlp.num_mono hm h
    have hsome : ∀ v, Rlp.getnum a2.data.toList = some v → Nib.bs (Rlp.num v) = a2 ∧ v < 18446744073709551616 := fun v h => ⟨by rw [Rlp.getnum_some h, Nib.bs_of], Rlp.getnum_lt h⟩
    obtain ⟨X, hX⟩ : ∃ X, X = Nib.bs (Rlp.num n) := ⟨_, rfl⟩
    obtain ⟨Y, hY⟩ : ∃ Y, Y = Nib.bs (Rlp.num m) := ⟨_, rfl⟩
    rw [← hX] at hnl hget hmono
    rw [← hY] at hml hmono
    simp only [← hX] at hnum
    simp only [← hY] at hnumm
    simp only [getVal] at hget
    have HNUM := Lib.hid hnum
    have HNUMM := Lib.hid hnumm
    have HGET := Lib.hid hget
    have HMONO := Lib.hid hmono
    clear hnum hnumm hget hmono hX hY hl8
    rcases hv : Rlp.getnum a2.data.toList with _ | v
    · simp only [hv, getVal] at hgs
      have HGS := Lib.hid hgs
      clear hgs hv hsome
      by_cases hnm : m < n
      all_goals
        go_enter Tryd.func3, Tryd.ntmps3
        go_wp2_with fail
        refine (rworks_any _ HL.out).mono ?_
        rintro e w1 ⟨rfl, b⟩
        have B1 := Lib.hid ((Bl.start w).call b)
        clear b
        go_wp2_with fail
        refine (HNUM.out _).mono ?_
        rintro e w2 ⟨rfl, b⟩
        have B2 := Lib.hid (B1.out.call b)
        clear b
        go_wp2_with fail
        refine (HGET.out _).mono ?_
        rintro e w3 ⟨rfl, b⟩
        have B3 := Lib.hid (B2.out.call b)
        clear b
        go_wp2_with fail
        refine (HGS.out _).mono ?_
        rintro e w4 ⟨rfl, b⟩
        have B4 := Lib.hid (B3.out.call b)
        clear b
        go_wp2_with fail
      · go_ret
        exact ⟨rfl, B4.out.1⟩
      · have hle : X.size ≤ Y.size := HMONO.out (by omega)
        refine (HNUM.out _).mono ?_
        rintro e w5 ⟨rfl, b⟩
        have B5 := Lib.hid (B4.out.call b)
        clear b
        go_wp2_with fail
        refine (HNUMM.out _).mono ?_
        rintro e w6 ⟨rfl, b⟩
        have B6 := Lib.hid (B5.out.call b)
        clear b
        go_wp2_with fail
        go_ret
        exact ⟨ret_bool (by simp [hle]), B6.out.1⟩
    · simp only [hv, getVal] at hgs
      obtain ⟨hv1, hv2⟩ := hsome v hv
      have hnv := fun W : World => num_any v W hv2
      rw [hv1] at hnv
      have HGS := Lib.hid hgs
      have HNV := Lib.hid hnv
      clear hgs hv hsome hv1 hnv
      by_cases hnm : m < n
      all_goals
        go_enter Tryd.func3, Tryd.ntmps3
        go_wp2_with fail
        refine (rworks_any _ HL.out).mono ?_
        rintro e w1 ⟨rfl, b⟩
        have B1 := Lib.hid ((Bl.start w).call b)
        clear b
        go_wp2_with fail
        refine (HNUM.out _).mono ?_
        rintro e w2 ⟨rfl, b⟩
        have B2 := Lib.hid (B1.out.call b)
        clear b
        go_wp2_with fail
        refine (HGET.out _).mono ?_
        rintro e w3 ⟨rfl, b⟩
        have B3 := Lib.hid (B2.out.call b)
        clear b
        go_wp2_with fail
        refine (HGS.out _).mono ?_
        rintro e w4 ⟨rfl, b⟩
        have B4 := Lib.hid (B3.out.call b)
        clear b
        go_wp2_with fail
        refine (HNV.out _).mono ?_
        rintro e w5 ⟨rfl, b⟩
        have B5 := Lib.hid (B4.out.call b)
        clear b
        go_wp2_with fail
      · go_ret
        exact ⟨rfl, B5.out.1⟩
      · have hle : X.size ≤ Y.size := HMONO.out (by omega)
        refine (HNUM.out _).mono ?_
        rintro e w6 ⟨rfl, b⟩
        have B6 := Lib.hid (B5.out.call b)
        clear b
        go_wp2_with fail
        refine (HNUMM.out _).mono ?_
        rintro e w7 ⟨rfl, b⟩
        have B7 := Lib.hid (B6.out.call b)
        clear b
        go_wp2_with fail
        go_ret
        exact ⟨ret_bool (by simp [hle]), B7.out.1⟩
set_option maxRecDepth 100000 in
theorem lifted (os : Os) (started : os.Started) (H : Type) (enc : TypeId × Value → H) :
    ReturnsInHanded {} Tryd.checked os 3 .any (fun w args => (Rows.rlpNumsSpec.pre enc Tryd.prog Tryd.f3 [] false w args ∧ laidMetH Tryd.prog Rows.rlpNumsRow.laid w) ∧ sizedMet enc Tryd.prog Tryd.f3 (OpenSpec.ofChange Rows.rlpNumsSpec) false w args)
      (Rows.rlpNumsSpec.post enc Tryd.prog Tryd.f3 false true false false) := by
  refine returnsInHanded_of_change_and (C := Tryd.checked) (X := fun w _ => laidMetH Tryd.prog Rows.rlpNumsRow.laid w) (fun _ _ _ hh h => h.of_heap hh) own started (by kernel_rfl) Tryd.func3
    (ChangeSpec.witness_shaped (enc := enc) (C := Tryd.checked) (os := os) (X := fun w _ => laidMetH Tryd.prog Rows.rlpNumsRow.laid w) false (World.doorLaid Tryd.prog 400 os) #[.int .u64 0, .int .u64 0, .string ByteArray.empty] 8 rfl (World.shaped_of_RefB (by kernel_rfl) (by kernel_rfl)) (by kernel_rfl) (by kernel_rfl) (by kernel_rfl) (door_met os _)) ?_
  intro W base args ds gs before hval0 hW _ _ hL _
  have hval : ∀ (j : Nat) t v, Tryd.f3.params[j]? = some t → args[j]? = some v → Value.okWide Tryd.prog W .any base t v := hval0
  have hW' := hW
  obtain ⟨p, q, hA0, hV, rfl, hfz, hnd⟩ := hW
  have hA : DataW.TrodAll enc Tryd.prog W 0 (fun _ => true) true Tryd.f3.params.toList args.toList ds p := hA0
  rw [Tryd.params3] at hA hval
  obtain ⟨v0, vs0, d0, ds0, p0, q0, hargs, rfl, rfl, h0, r0⟩ := trodAll_cons hA
  obtain ⟨v1, vs1, d1, ds1, p1, q1, rfl, rfl, rfl, h1, r1⟩ := trodAll_cons r0
  obtain ⟨v2, vs2, d2, ds2, p2, q2, rfl, rfl, rfl, h2, r2⟩ := trodAll_cons r1
  obtain ⟨rfl, rfl, rfl⟩ := trodAll_nil r2
  obtain rfl : args = #[v0, v1, v2] := by cases args; simp_all
  obtain ⟨rfl, rfl⟩ := trodVars_none hV
  obtain ⟨a0, rfl, rfl, rfl, w0⟩ := open_int Tryd.underlying22 (hval 0 22 v0 rfl rfl) h0
  obtain ⟨a1, rfl, rfl, rfl, w1⟩ := open_int Tryd.underlying22 (hval 1 22 v1 rfl rfl) h1
  obtain ⟨a2, rfl, rfl, rfl, w2⟩ := open_string Tryd.underlying9 (hval 2 9 v2 rfl rfl) h2
  have hl : Laid W := laid_of hL
  clear hA0 hval0
  simp only [List.append_nil] at hW'
  refine (walk a0 a1 a2 w0 w1 w2 W hl).mono fun e W' ⟨he, bel⟩ => ?_
  subst he
  exact ⟨_, rfl, _, _, _, [], [], [], hW', trodAll_mk1 (shut_bool Tryd.underlying4 _), (trodAll_cons_mk (shut_int Tryd.underlying22 w0) (trodAll_cons_mk (shut_int Tryd.underlying22 w1) (trodAll_cons_mk (shut_string Tryd.underlying9 w2) trodAll_mk0))), rfl, bel.frame _, fun h => by cases h⟩
theorem over : Rows.RlpNumsSaid :=
  OpenClaim.holds_of_wide 3 Tryd.f3 rfl rfl rfl rfl rfl rfl rfl ⟨rfl, rfl, rfl, rfl, rfl⟩ rfl rfl rfl rfl rfl (by kernel_rfl) Tryd.func3 (by kernel_rfl)
    (of_decide_eq_true (by kernel_rfl)) (by unfold Func.isWrapper; rw [if_neg (by decide +kernel)]; exact ⟨rfl, rfl⟩)
    (fun os started H enc _ => lifted os started H enc)
theorem proved : Rows.RlpNumsCardSaid :=
  Claim7.holds_tied_plain_at .later [] [.handle] true Rows.rlpNumsCard.stood.harness true
    over (fun _ h => by cases h) (by kernel_rfl) (fun _ h => by cases h) rlpNums_row_tie rfl ⟨rfl, rfl⟩ (by kernel_rfl) rfl
    (fun f fn hf hfn => by
      obtain rfl : f = 3 := Option.some.inj ((show Tryd.prog.funcNamed "guilloche/guillochelaw02.RlpNums" = some 3 by kernel_rfl).symm.trans hf) |>.symm
      obtain rfl : fn = Tryd.f3 := (Option.some.inj (Tryd.func3.symm.trans hfn)).symm
      exact ⟨by kernel_rfl, fun j t ht => by
        rw [Tryd.params3] at ht
        have hm : t ∈ [22, 22, 9] := by simpa using Array.mem_of_getElem? ht
        have hall : ([22, 22, 9].all fun u => !Tryd.prog.wantsStandIn u) = true := by kernel_rfl
        exact (show Tryd.prog.wantsStandIn t = false by simpa using List.all_eq_true.1 hall t hm)⟩)
    (by kernel_rfl)
end Go.Proofs.YtgeonbkoihegnaaDoor.rlpNums

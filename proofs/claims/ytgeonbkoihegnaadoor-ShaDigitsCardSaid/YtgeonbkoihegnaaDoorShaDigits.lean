/-
  PROVED HERE: the law ShaDigits returns true for every input (digits are 0 to 9, and a to f; two of them tell a byte; of a text of more than 300 bytes the law asks nothing). The two tables of the hash are as the program lays them (tied).
-/
import Derived.Test.YtgeonbkoihegnaaDoorShaMore
import Derived.Test.YtgeonbkoihegnaaDoorCards
import Derived.Test.YtgeonbkoihegnaaDoorTie
import Derived.WalkKit
import Derived.ProofKit
import Derived.LaidMore
import Derived.OpenShut
import Derived.ShutString
import Derived.ChangeOld
import Derived.Below
import Derived.Stop.Joined
import Derived.SevenTiedAt
namespace Go.Proofs.YtgeonbkoihegnaaDoor.shaDigits
open Go.ChangeShapes Go.WideShapes Go.ChangeAt Go.RowKit
open Go.ChangeMaps (open_string shut_string)
set_option linter.unusedVariables false
set_option maxHeartbeats 1000000 in
theorem walk (a0 : ByteArray) (w0 : a0.size ≤ maxLen) (w : World) (hl : Laid w) :
    Calls Tryd.prog 9 #[.string a0] w fun e w' => e = .returned (.bool true) ∧ Below w.heap.size w w' := by
  have HL := Lib.hid hl
  have hw1 : 1 < w.heap.size := laid_lt hl
  clear hl
  by_cases hlen : 300 < a0.size
  · go_enter Tryd.func9, Tryd.ntmps9
    go_wp2_with fail
    refine (works_any _ HL.out).mono ?_
    rintro e w1 ⟨rfl, hb1⟩
    go_wp2_with fail
    go_ret
    exact ⟨rfl, hb1⟩
  · have ha : a0.size ≤ 300 := by omega
    clear hlen
    obtain ⟨x, hx⟩ : ∃ x, x = Nib.bs (Lib.Hx.encode a0.data.toList) := ⟨_, rfl⟩
    have hxs : x.size = 2 * a0.size := by rw [hx, Nib.bs_size, Lib.Hx.encode_length, Nib.len_of]
    have hx6 : x.size ≤ 600 := by omega
    have t1 : ((x.size : Int) != 2 * (a0.size : Int)) = false := by rw [hxs]; simp
    have HX := Lib.hid hx
    have HXS := Lib.hid hxs
    clear hx hxs
    go_enter Tryd.func9, Tryd.ntmps9
    go_wp2_with fail
    refine (works_any _ HL.out).mono ?_
    rintro e w1 ⟨rfl, hb1⟩
    go_wp2_with fail
    refine (hex_any a0 _ (by omega)).mono ?_
    rintro e w2 ⟨rfl, hb2⟩
    rw [← HX.out]
    have B2 := Lib.hid (((Bl.start w).call hb1).call hb2)
    clear hb1 hb2
    go_wp2_with fail
    go_loop [5] (fun vi => ∃ k : Nat, k ≤ a0.size ∧ vi = .int .i64 k) (fun vi => a0.size - (intOf vi).toNat)
    case atStart => exact ⟨0, Nat.zero_le _, rfl⟩
    case round =>
      obtain ⟨k, hk, rfl⟩ := hrel
      by_cases hlt : k < a0.size
      · obtain ⟨b, hb⟩ : ∃ b, b = a0[k] := ⟨_, rfl⟩
        have hab : a0[k] = b := hb.symm
        have hat := Lib.Hx.encode_at a0.data.toList k b (by rw [List.getElem?_eq_getElem (by simpa using hlt), byte_get a0 k hlt, hb])
        have hxz := HXS.out
        have i0 : 2 * k < x.size := by omega
        have i1 : 2 * k + 1 < x.size := by omega
        obtain ⟨c0, hc0⟩ : ∃ c0, c0 = Lib.Hx.digit (b.toNat / 16) := ⟨_, rfl⟩
        obtain ⟨c1, hc1⟩ : ∃ c1, c1 = Lib.Hx.digit (b.toNat % 16) := ⟨_, rfl⟩
        have hxd : x.data.toList = Lib.Hx.encode a0.data.toList := by rw [HX.out, Nib.bs_data]
        have x0 : x[2 * k] = c0 := by
          have := hat.1
          rw [← hxd, List.getElem?_eq_getElem (by simpa using i0), byte_get x _ i0, ← hc0] at this
          exact Option.some.inj this
        have x1 : x[2 * k + 1] = c1 := by
          have := hat.2
          rw [← hxd, List.getElem?_eq_getElem (by simpa using i1), byte_get x _ i1, ← hc1] at this
          exact Option.some.inj this
        have hb256 := b.toNat_lt
        have s0 := digit_sign (b.toNat / 16) (by omega)
        have s1 := digit_sign (b.toNat % 16) (by omega)
        rw [← hc0] at s0
        rw [← hc1] at s1
        have S0 := Lib.hid s0
        have S1 := Lib.hid s1
        have HB : Hid (16 * ((b.toNat / 16 : Nat) : Int) + ((b.toNat % 16 : Nat) : Int) = (b.toNat : Int)) := by
          have : 16 * ((b.toNat / 16 : Nat) : Int) + ((b.toNat % 16 : Nat) : Int) = (b.toNat : Int) := by omega
          exact this
        have hd0 : b.toNat / 16 < 16 := by omega
        have hd1 : b.toNat % 16 < 16 := by omega
        generalize b.toNat / 16 = d0 at S0 HB hd0
        generalize b.toNat % 16 = d1 at S1 HB hd1
        clear hat hc0 hc1 hxd hb s0 s1 hxz
        go_wp2_with fail
        go_loop [6, 7] (fun vn vk => ∃ (j : Nat) (n : Int), j ≤ 2 ∧ vk = .int .i64 (2 * (k : Int) + (j : Int)) ∧ vn = .int .i64 n ∧ 0 ≤ n ∧ n ≤ 255 ∧ Hid (n = if j = 0 then 0 else if j = 1 then (d0 : Int) else (b.toNat : Int))) (fun _ vk => 2 * k + 2 - (intOf vk).toNat)
        case atStart => exact ⟨0, 0, by omega, by go_num, rfl, by omega, by omega, rfl⟩
        case round =>
          obtain ⟨j, n, hj, rfl, rfl, hn0, hn1, HN⟩ := hrel
          have hjc : j = 0 ∨ j = 1 ∨ j = 2 := by omega
          rcases hjc with rfl | rfl | rfl
          · have hn := HN.out
            rw [if_pos rfl] at hn
            subst hn
            have sg := S0.out
            by_cases h10 : d0 < 10
            · rw [if_pos h10] at sg
              have g0 : (48 : Int) ≤ (c0.toNat : Int) := by omega
              have g1 : (c0.toNat : Int) ≤ 57 := by omega
              have SG := Lib.hid sg
              clear sg
              rw [show 2 * (k : Int) + ((0 : Nat) : Int) = 2 * (k : Int) by omega]
              go_wp2_with fail
              go_round
              case rel => refine ⟨1, _, by omega, by go_num, rfl, by have := SG.out; have := HB.out; omega, by have := SG.out; have := HB.out; omega, ?_⟩; have hsg := SG.out; have hhb := HB.out; show (_ : Int) = _; rw [if_neg (by decide), if_pos rfl]; omega
              case measure => simp [intOf]; omega
            · rw [if_neg h10] at sg
              have g0 : (97 : Int) ≤ (c0.toNat : Int) := by omega
              have g1 : (c0.toNat : Int) ≤ 102 := by omega
              have g2 : (48 : Int) ≤ (c0.toNat : Int) := by omega
              have g3 : ¬ (c0.toNat : Int) ≤ 57 := by omega
              have SG := Lib.hid sg
              clear sg
              rw [show 2 * (k : Int) + ((0 : Nat) : Int) = 2 * (k : Int) by omega]
              go_wp2_with fail
              go_round
              case rel => refine ⟨1, _, by omega, by go_num, rfl, by have := SG.out; have := HB.out; omega, by have := SG.out; have := HB.out; omega, ?_⟩; have hsg := SG.out; have hhb := HB.out; show (_ : Int) = _; rw [if_neg (by decide), if_pos rfl]; omega
              case measure => simp [intOf]; omega
          · have hn := HN.out
            rw [if_neg (by decide), if_pos rfl] at hn
            subst hn
            have sg := S1.out
            by_cases h10 : d1 < 10
            · rw [if_pos h10] at sg
              have g0 : (48 : Int) ≤ (c1.toNat : Int) := by omega
              have g1 : (c1.toNat : Int) ≤ 57 := by omega
              have SG := Lib.hid sg
              clear sg
              rw [show 2 * (k : Int) + ((1 : Nat) : Int) = 2 * (k : Int) + 1 by omega]
              go_wp2_with fail
              go_round
              case rel => refine ⟨2, _, by omega, by go_num, rfl, by have := SG.out; have := HB.out; omega, by have := SG.out; have := HB.out; omega, ?_⟩; have hsg := SG.out; have hhb := HB.out; show (_ : Int) = _; rw [if_neg (by decide), if_neg (by decide)]; omega
              case measure => simp [intOf]; omega
            · rw [if_neg h10] at sg
              have g0 : (97 : Int) ≤ (c1.toNat : Int) := by omega
              have g1 : (c1.toNat : Int) ≤ 102 := by omega
              have g2 : (48 : Int) ≤ (c1.toNat : Int) := by omega
              have g3 : ¬ (c1.toNat : Int) ≤ 57 := by omega
              have SG := Lib.hid sg
              clear sg
              rw [show 2 * (k : Int) + ((1 : Nat) : Int) = 2 * (k : Int) + 1 by omega]
              go_wp2_with fail
              go_round
              case rel => refine ⟨2, _, by omega, by go_num, rfl, by have := SG.out; have := HB.out; omega, by have := SG.out; have := HB.out; omega, ?_⟩; have hsg := SG.out; have hhb := HB.out; show (_ : Int) = _; rw [if_neg (by decide), if_neg (by decide)]; omega
              case measure => simp [intOf]; omega
          · have hn := HN.out
            rw [if_neg (by decide), if_neg (by decide)] at hn
            subst hn
            have tn : ((b.toNat : Int) != (b.toNat : Int)) = false := by simp
            rw [show 2 * (k : Int) + ((2 : Nat) : Int) = 2 * (k : Int) + 2 by omega]
            go_wp2_with fail
            go_round
            case rel => exact ⟨k + 1, by omega, by go_num⟩
            case measure => simp [intOf]; omega
      · have hk2 : k = a0.size := by omega
        subst hk2
        go_wp2_with fail
        go_ret
        exact ⟨rfl, B2.out.1⟩
set_option maxRecDepth 100000 in
theorem lifted (os : Os) (started : os.Started) (H : Type) (enc : TypeId × Value → H) :
    ReturnsInHanded {} Tryd.checked os 9 .any (fun w args => (Rows.shaDigitsSpec.pre enc Tryd.prog Tryd.f9 [] false w args ∧ laidMetH Tryd.prog Rows.shaDigitsRow.laid w) ∧ sizedMet enc Tryd.prog Tryd.f9 (OpenSpec.ofChange Rows.shaDigitsSpec) false w args)
      (Rows.shaDigitsSpec.post enc Tryd.prog Tryd.f9 false true false false) := by
  refine returnsInHanded_of_change_and (C := Tryd.checked) (X := fun w _ => laidMetH Tryd.prog Rows.shaDigitsRow.laid w) (fun _ _ _ hh h => h.of_heap hh) own started (by kernel_rfl) Tryd.func9
    (ChangeSpec.witness_shaped (enc := enc) (C := Tryd.checked) (os := os) (X := fun w _ => laidMetH Tryd.prog Rows.shaDigitsRow.laid w) false (World.doorLaid Tryd.prog 400 os) #[.string ByteArray.empty] 8 rfl (World.shaped_of_RefB (by kernel_rfl) (by kernel_rfl)) (by kernel_rfl) (by kernel_rfl) (by kernel_rfl) (door_met os _)) ?_
  intro W base args ds gs before hval0 hW _ _ hL _
  have hval : ∀ (j : Nat) t v, Tryd.f9.params[j]? = some t → args[j]? = some v → Value.okWide Tryd.prog W .any base t v := hval0
  have hW' := hW
  obtain ⟨p, q, hA0, hV, rfl, hfz, hnd⟩ := hW
  have hA : DataW.TrodAll enc Tryd.prog W 0 (fun _ => true) true Tryd.f9.params.toList args.toList ds p := hA0
  rw [Tryd.params9] at hA hval
  obtain ⟨v0, vs0, d0, ds0, p0, q0, hargs, rfl, rfl, h0, r0⟩ := trodAll_cons hA
  obtain ⟨rfl, rfl, rfl⟩ := trodAll_nil r0
  obtain rfl : args = #[v0] := by cases args; simp_all
  obtain ⟨rfl, rfl⟩ := trodVars_none hV
  obtain ⟨a0, rfl, rfl, rfl, w0⟩ := open_string Tryd.underlying9 (hval 0 9 v0 rfl rfl) h0
  have hl : Laid W := laid_of hL
  clear hA0 hval0
  simp only [List.append_nil] at hW'
  refine (walk a0 w0 W hl).mono fun e W' ⟨he, bel⟩ => ?_
  subst he
  exact ⟨_, rfl, _, _, _, [], [], [], hW', trodAll_mk1 (shut_bool Tryd.underlying4 _), (trodAll_cons_mk (shut_string Tryd.underlying9 w0) trodAll_mk0), rfl, bel.frame _, fun h => by cases h⟩
theorem over : Rows.ShaDigitsSaid :=
  OpenClaim.holds_of_wide 9 Tryd.f9 rfl rfl rfl rfl rfl rfl rfl ⟨rfl, rfl, rfl, rfl, rfl⟩ rfl rfl rfl rfl rfl (by kernel_rfl) Tryd.func9 (by kernel_rfl)
    (of_decide_eq_true (by kernel_rfl)) (by unfold Func.isWrapper; rw [if_neg (by decide +kernel)]; exact ⟨rfl, rfl⟩)
    (fun os started H enc _ => lifted os started H enc)
theorem proved : Rows.ShaDigitsCardSaid :=
  Claim7.holds_tied_plain_at .later [] [.data, .data] true Rows.shaDigitsCard.stood.harness true
    over (fun _ h => by cases h) (by kernel_rfl) (fun _ h => by cases h) shaDigits_row_tie rfl ⟨rfl, rfl⟩ (by kernel_rfl) rfl
    (fun f fn hf hfn => by
      obtain rfl : f = 9 := Option.some.inj ((show Tryd.prog.funcNamed "guilloche/guillochelaw03.ShaDigits" = some 9 by kernel_rfl).symm.trans hf) |>.symm
      obtain rfl : fn = Tryd.f9 := (Option.some.inj (Tryd.func9.symm.trans hfn)).symm
      exact ⟨by kernel_rfl, fun j t ht => by
        rw [Tryd.params9] at ht
        have hm : t ∈ [9] := by simpa using Array.mem_of_getElem? ht
        have hall : ([9].all fun u => !Tryd.prog.wantsStandIn u) = true := by kernel_rfl
        exact (show Tryd.prog.wantsStandIn t = false by simpa using List.all_eq_true.1 hall t hm)⟩)
    (by kernel_rfl)
end Go.Proofs.YtgeonbkoihegnaaDoor.shaDigits

/-
  The walk of the law MeshOrder.
-/
import Derived.Test.YtplahkhohhbgaaaMeshArgs
namespace Go.Proofs.Ytplahkhohhbgaaa
open Go.RowKit Go.Proofs.Msh
set_option linter.unusedVariables false
set_option linter.unusedSimpArgs false
theorem send_order (l : List ByteArray) (k R : Nat) (hk : k < l.length) : sendF (R : Int) ((l.take k).take R) l[k] = ((l.take (k + 1)).take R, decide (k < R)) := by
  unfold sendF
  have h1 : ((l.take k).take R).length = min R k := by rw [List.length_take, List.length_take]; omega
  rw [h1]
  by_cases h : k < R
  · rw [if_neg (by omega), decide_eq_true h, List.take_of_length_le (l := l.take k) (by rw [List.length_take]; omega), List.take_of_length_le (l := l.take (k + 1)) (by rw [List.length_take]; omega), List.take_succ_eq_append_getElem hk]
  · rw [if_pos (by omega), decide_eq_false h, List.take_take, List.take_take, Nat.min_eq_left (by omega), Nat.min_eq_left (by omega)]
theorem take_order (l : List ByteArray) (k R : Nat) (hk : k < l.length) (hR : k < R) : takeF ((l.take R).drop k) 0 = ((l.take R).drop (k + 1), l[k], true) := by
  have h1 : (l.take R)[k]'(by rw [List.length_take]; omega) = l[k] := List.getElem_take ..
  have h2 : (l.take R).drop k = l[k] :: (l.take R).drop (k + 1) := by rw [← h1]; exact List.drop_eq_getElem_cons _
  rw [h2]
  rfl
set_option maxHeartbeats 2000000 in
theorem order_walk (w : World) (a0 : Int) (A1 : Option Addr) (c1 : Nat) (l1 : List ByteArray) (S1 : Strs w A1 l1) (w0 : (Lit.int .i64 a0).wf = true) (n1 : l1.length ≤ maxLen) :
    Calls Try.prog 12 #[.int .i64 a0, .slice A1 l1.length c1] w fun e w' => e = .returned (.bool true) ∧ Below w.heap.size w w' := by
  clear n1 w0
  obtain ⟨R, hR⟩ : ∃ R : Nat, roomOf a0 = R := ⟨(roomOf a0).toNat, by have := roomOf_bd a0; omega⟩
  have hRb : 1 ≤ R ∧ R ≤ 64 := by have := roomOf_bd a0; omega
  have hmx : (if (64 : Int) < if a0 < 1 then 1 else a0 then 64 else if a0 < 1 then 1 else a0) = (R : Int) := by
    rw [← hR]
    unfold roomOf
    split <;> split at * <;> omega
  have HR := Lib.hid hR
  have HS := Lib.hid S1
  clear hR S1
  go_enter Try.func12, Try.ntmps12
  go_wp2_with fail
  refine (works_any _).mono ?_
  rintro e w1 ⟨rfl, hb1⟩
  have HB1 := Lib.hid hb1
  clear hb1
  go_wp2_with fail
  refine (new_any a0 w w1 ⟨HB1.out, HB1.out.size⟩).mono ?_
  rintro e w2 ⟨rfl, hM, hb2⟩
  rw [HR.out] at hM
  have H2 := Lib.hid hM
  have HS2 := Lib.hid (HS.out.below (hM.2.2.1.1))
  clear hM hb2
  by_cases hlen : l1.length ≤ 100
  · have i1 : ¬ (100 : Int) < (l1.length : Int) := by omega
    go_wp2_with fail
    go_loopw [7] (fun vi wr => ∃ (k : Nat) (v : Value), vi = .int .i64 (k : Int) ∧ k ≤ l1.length ∧ Hid (Ms w w1.heap.size R v ((l1.take k).take R) wr)) (fun vi _ => l1.length - (intOf vi).toNat)
    case atStart => exact ⟨0, _, rfl, Nat.zero_le _, Lib.hid (by simpa using H2.out)⟩
    case round =>
      obtain ⟨k, v, rfl, hk, HM⟩ := hrel
      by_cases hlt : k < l1.length
      · obtain ⟨b, o, rfl, _, ck⟩ := (HS.out.below HM.out.2.2.1.1).at_ k hlt
        obtain ⟨X, hX⟩ : ∃ X, X = l1[k] := ⟨_, rfl⟩
        have hso := send_order l1 k R hlt
        rw [← hX] at ck hso
        have HX := Lib.hid hX
        have HSO := Lib.hid hso
        clear hX hso
        have j1 : (k : Int) < (l1.length : Int) := by omega
        have wk : IntKind.i64.wrap ((k : Int) + 1) = (k : Int) + 1 := IntWalk.i64_in _ (by omega)
        by_cases hs : X.size ≤ 100
        · have j2 : ¬ (100 : Int) < (X.size : Int) := by omega
          go_wp2_with fail
          refine (send_any X HM.out).mono ?_
          rintro e w3 ⟨rfl, v3, hM3, _, _⟩
          rw [HSO.out] at hM3
          simp only [HSO.out]
          have H3 := Lib.hid hM3
          clear hM3
          go_wp2_with fail
          refine ⟨⟨k + 1, v3, by go_num, by omega, H3⟩, ?_⟩
          simp [intOf]; omega
        · have j2 : (100 : Int) < (X.size : Int) := by omega
          go_wp2_with fail
          go_ret
          exact ⟨rfl, HM.out.2.2.1.1⟩
      · obtain rfl : k = l1.length := by omega
        go_wp2_with fail
        have H4 := Lib.hid (show Ms w w1.heap.size R v (l1.take R) wr by have := HM.out; rwa [List.take_length] at this)
        go_loopw [9] (fun vi wr => ∃ (k : Nat) (v : Value), vi = .int .i64 (k : Int) ∧ k ≤ l1.length ∧ k ≤ R ∧ Hid (Ms w w1.heap.size R v ((l1.take R).drop k) wr)) (fun vi _ => l1.length - (intOf vi).toNat)
        case atStart => exact ⟨0, _, rfl, Nat.zero_le _, Nat.zero_le _, H4⟩
        case round =>
          obtain ⟨k, v, rfl, hk, hkR, HM⟩ := hrel
          by_cases hlt : k < l1.length
          · have j1 : (k : Int) < (l1.length : Int) := by omega
            by_cases hltR : k < R
            · obtain ⟨b, o, rfl, _, ck⟩ := (HS.out.below HM.out.2.2.1.1).at_ k hlt
              obtain ⟨X, hX⟩ : ∃ X, X = l1[k] := ⟨_, rfl⟩
              have hto := take_order l1 k R hlt hltR
              rw [← hX] at ck hto
              have HX := Lib.hid hX
              have HTO := Lib.hid hto
              clear hX hto
              have j2 : (k : Int) < (R : Int) := by omega
              have wk : IntKind.i64.wrap ((k : Int) + 1) = (k : Int) + 1 := IntWalk.i64_in _ (by omega)
              go_wp2_with fail
              all_goals
                refine (take_any 0 HM.out).mono ?_
                rintro e w3 ⟨rfl, v3, hM3, _, _⟩
                rw [HTO.out] at hM3
                simp only [HTO.out]
                have H3 := Lib.hid hM3
                have HS3 := Lib.hid ((HS.out.below hM3.2.2.1.1))
                clear hM3
                obtain ⟨b', o', he, _, ck'⟩ := HS3.out.at_ k hlt
                cases he
                rw [← HX.out] at ck'
                go_wp2_with fail
                refine ⟨⟨k + 1, v3, by go_num, by omega, by omega, H3⟩, ?_⟩
                simp [intOf]; omega
            · have j2 : ¬ (k : Int) < (R : Int) := by omega
              have hz : (l1.take R).drop k = [] := List.drop_eq_nil_of_le (by rw [List.length_take]; omega)
              have HZ := Lib.hid hz
              clear hz
              go_wp2_with fail
              all_goals
                refine (take_any 0 HM.out).mono ?_
                rintro e w3 ⟨rfl, v3, hM3, _, _⟩
                rw [HZ.out] at hM3
                simp only [HZ.out, show (takeF [] 0).2.2 = false from rfl]
                have H3 := Lib.hid hM3
                clear hM3
                go_wp2_with fail
                go_ret
                exact ⟨rfl, H3.out.2.2.1.1⟩
          · obtain rfl : k = l1.length := by omega
            have hz : (l1.take R).drop l1.length = [] := List.drop_eq_nil_of_le (by rw [List.length_take]; omega)
            have HZ := Lib.hid hz
            clear hz
            go_wp2_with fail
            all_goals
              refine (take_any 0 HM.out).mono ?_
              rintro e w3 ⟨rfl, v3, hM3, _, _⟩
              rw [HZ.out] at hM3
              simp only [HZ.out, show (takeF [] 0).2.2 = false from rfl]
              have H3 := Lib.hid hM3
              clear hM3
              go_wp2_with fail
              go_ret
              exact ⟨rfl, H3.out.2.2.1.1⟩
  · have i1 : (100 : Int) < (l1.length : Int) := by omega
    go_wp2_with fail
    go_ret
    exact ⟨rfl, H2.out.2.2.1.1⟩
end Go.Proofs.Ytplahkhohhbgaaa

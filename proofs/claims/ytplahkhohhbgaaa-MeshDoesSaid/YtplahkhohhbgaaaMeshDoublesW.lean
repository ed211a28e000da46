/-
  The walk of the law MeshDoubles.
-/
import Derived.Test.YtplahkhohhbgaaaMeshMovesW
namespace Go.Proofs.Ytplahkhohhbgaaa
open Go.RowKit Go.Proofs.Msh
set_option linter.unusedVariables false
set_option linter.unusedSimpArgs false
theorem mx_room (a0 : Int) (R : Int) (hR : roomOf a0 = R) : (if (64 : Int) < if a0 < 1 then 1 else a0 then 64 else if a0 < 1 then 1 else a0) = R := by
  rw [← hR]
  unfold roomOf
  split <;> split at * <;> omega
theorem mx_room2 (a0 : Int) (R : Int) (hR : roomOf a0 = R) : ∃ M1 : Int, (if a0 < 1 then 1 else a0) = M1 ∧ (if (64 : Int) < M1 then 64 else M1) = R :=
  ⟨_, rfl, mx_room a0 R hR⟩
/-- Own blocks lie where the mesh was. -/
theorem Ms.own_lt {w0 : World} {g : Nat} {r : Int} {v : Value} {xs : List ByteArray} {w : World} (h : Ms w0 g r v xs w) : ∀ i, Own g v i → i < w.heap.size := h.1.own_lt
theorem Sl.kept {w w' : World} {g b n c : Nat} {v : Value} {xs : List ByteArray} (h : Sl w (.slice (some ⟨b, 0, none⟩) n c) xs) (hb : ¬ Own g v b) (F : Far (Own g v) w w') : Sl w' (.slice (some ⟨b, 0, none⟩) n c) xs :=
  h.far F (fun i hi => by
    have h2 : some b = some i := hi
    cases h2
    exact hb)
set_option maxHeartbeats 1000000 in
theorem doubles_walk (w : World) (a0 : Int) (A1 : Option Addr) (c1 : Nat) (l1 : List Deed) (S1 : Sa w A1 l1) (a2 : Int) :
    Calls Try.prog 13 #[.int .i64 a0, .slice A1 l1.length c1, .int .i64 a2] w fun e w' => e = .returned (.bool true) ∧ Below w.heap.size w w' := by
  obtain ⟨R, hR⟩ : ∃ R : Nat, roomOf a0 = R := ⟨(roomOf a0).toNat, by have := roomOf_bd a0; omega⟩
  have hRb : 1 ≤ R ∧ R ≤ 64 := by have := roomOf_bd a0; omega
  obtain ⟨M1, hm1, hm2⟩ := mx_room2 a0 R hR
  have HR := Lib.hid hR
  have HS := Lib.hid S1
  clear hR S1
  go_enter Try.func13, Try.ntmps13
  go_wp2_with fail
  refine (works_any _).mono ?_
  rintro e w1 ⟨rfl, hb1⟩
  have HB1 := Lib.hid hb1
  clear hb1
  go_wp2_with fail
  refine (new_any a0 w w1 ⟨HB1.out, HB1.out.size⟩).mono ?_
  rintro e w2 ⟨rfl, hM, hb2⟩
  rw [HR.out] at hM
  have H2 := Lib.hid hM
  clear hM hb2
  go_wp2_with fail
  refine (few_any A1 c1 l1 w2 (HS.out.below (B := 0) H2.out.2.2.1.1)).mono ?_
  rintro e w3 ⟨rfl, rfl⟩
  rcases hf : fewF l1 with _ | _
  · go_wp2_with fail
    go_ret
    exact ⟨rfl, H2.out.2.2.1.1⟩
  · obtain ⟨hl100, _⟩ := fewF_true hf
    clear hf
    go_wp2_with fail
    go_loopw [10] (fun vi wr => ∃ (k : Nat) (v : Value) (xs : List ByteArray), vi = .int .i64 (k : Int) ∧ k ≤ l1.length ∧ Hid (Ms w w1.heap.size R v xs wr)) (fun vi _ => l1.length - (intOf vi).toNat)
    case atStart => exact ⟨0, _, _, rfl, Nat.zero_le _, H2⟩
    case round =>
      obtain ⟨k, v, xs, rfl, hk, HM⟩ := hrel
      by_cases hlt : k < l1.length
      · obtain ⟨a, ha⟩ : ∃ a, l1[k]? = some a := ⟨_, List.getElem?_eq_getElem hlt⟩
        obtain ⟨b, o, rfl, _, d0, d1, d2, d3⟩ := (HS.out.below (B := 0) HM.out.2.2.1.1).at_ k a ha
        obtain ⟨ak, aks, an, ato⟩ := a
        simp only at d0 d1 d2 d3
        have j1 : (k : Int) < (l1.length : Int) := by omega
        have wk : IntKind.i64.wrap ((k : Int) + 1) = (k : Int) + 1 := IntWalk.i64_in _ (by omega)
        clear ha
        go_wp2_with fail
        refine (do_any ⟨ak, aks, an, ato⟩ HM.out).mono ?_
        rintro e w4 ⟨rfl, v4, hM4, _, _⟩
        generalize (actF (R : Int) xs ⟨ak, aks, an, ato⟩).1 = ys at hM4
        have H4 := Lib.hid hM4
        clear hM4
        go_wp2_with fail
        refine ⟨⟨k + 1, v4, ys, by go_num, by omega, H4⟩, ?_⟩
        simp [intOf]; omega
      · obtain rfl : k = l1.length := by omega
        have hx64 := HM.out.len
        have hxR : (xs.length : Int) ≤ R := HM.out.2.2.2.1
        go_wp2_with fail
        refine (all_any HM.out).mono ?_
        rintro e w4 ⟨c4, rfl, hSl, hb⟩
        have HSl := Lib.hid hSl
        have H4 := Lib.hid (HM.out.below hb)
        have hnb : ¬ Own w1.heap.size v wr.heap.size := fun h => by have := HM.out.own_lt _ h; omega
        have HNB := Lib.hid hnb
        clear hSl hb hnb
        have fin : ∀ (h : (a2 < 0) ∨ (¬ a2 < 0 ∧ (xs.length : Int) ≤ a2)), doubleF R xs a2 = (xs, false) := by
          intro h
          unfold doubleF
          have : getAt xs a2 = none := by
            rcases h with h | ⟨h1, h2⟩
            · unfold getAt; rw [if_pos h]
            · unfold getAt; rw [if_neg h1]; exact List.getElem?_eq_none (by omega)
          rw [this]
        have FIN := Lib.hid fin
        clear fin
        by_cases hin : 0 ≤ a2 ∧ a2 < xs.length
        · obtain ⟨k, rfl⟩ : ∃ k : Nat, a2 = k := ⟨a2.toNat, by omega⟩
          have hk1 : k < xs.length := by omega
          obtain ⟨x, hx⟩ : ∃ x, xs[k]? = some x := ⟨_, List.getElem?_eq_getElem hk1⟩
          have g1 : (k : Int) < (xs.length : Int) := by omega
          have hdf : doubleF R xs k = sendF R xs x := by unfold doubleF; rw [getAt_nat, hx]
          clear hin FIN
          by_cases hfull : xs.length = R
          · have hs2 : doubleF R xs k = (xs, false) := by rw [hdf]; unfold sendF; rw [if_pos (by omega)]
            have HD := Lib.hid hs2
            have g2 : ¬ (xs.length : Int) < (R : Int) := by omega
            clear hdf hs2 hx hfull
            go_wp2_with fail
            refine (double_any k H4.out).mono ?_
            rintro e w5 ⟨rfl, v5, hM5, F5, _⟩
            have HSl5 := Lib.hid (HSl.out.kept HNB.out F5)
            have hw5 := F5.size
            rw [HD.out] at hM5
            simp only [HD.out]
            have H5 := Lib.hid hM5
            clear hM5 F5
            go_wp2_with fail
            refine (all_any H5.out).mono ?_
            rintro e w6 ⟨c6, rfl, hSl6, hb⟩
            have HSl6 := Lib.hid hSl6
            have HSl7 := Lib.hid (HSl5.out.below hb)
            have H6 := Lib.hid (H5.out.below hb)
            clear hSl6 hb
            go_wp2_with fail
            refine (same_any _ _ _ _ xs xs w6 HSl7.out.strs HSl6.out.strs (by omega) (by omega)).mono ?_
            rintro e w7 ⟨rfl, q, rfl⟩
            simp only [decide_true]
            go_wp2_with fail
            go_ret
            exact ⟨rfl, below_drewN H6.out.2.2.1.1 q⟩
          · have hs2 : doubleF R xs k = (xs ++ [x], true) := by rw [hdf]; unfold sendF; rw [if_neg (by omega)]
            have HD := Lib.hid hs2
            have HX := Lib.hid hx
            have g2 : (xs.length : Int) < (R : Int) := by omega
            have g3 : xs.length < R := by omega
            clear hdf hs2 hx hfull
            have n1 : ¬ a0 < 1 := by
              intro h
              have := HR.out
              unfold roomOf at this
              omega
            have n2 : (64 < a0 ∧ xs.length < 64 ∧ (xs.length : Int) < 64) ∨ (¬ 64 < a0 ∧ (xs.length : Int) < a0 ∧ (xs.length : Int) < a0) := by
              have := HR.out
              unfold roomOf at this
              omega
            clear hm1 hm2
            rcases n2 with ⟨n2, n3, n4⟩ | ⟨n2, n3, n4⟩
            all_goals
              go_wp2_with fail
              refine (double_any k H4.out).mono ?_
              rintro e w5 ⟨rfl, v5, hM5, F5, _⟩
              have HSl5 := Lib.hid (HSl.out.kept HNB.out F5)
              rw [HD.out] at hM5
              simp only [HD.out]
              have H5 := Lib.hid hM5
              clear hM5 F5
              go_wp2_with fail
              refine (all_exact H5.out).mono ?_
              rintro e w6 ⟨rfl, hSl6, hb⟩
              have HSl6 := Lib.hid hSl6
              have HSl7 := Lib.hid (HSl5.out.below hb)
              have H6 := Lib.hid (H5.out.below hb)
              clear hSl6 hb
              have e1 : (xs ++ [x]).length = xs.length + 1 := by simp
              have q1 : w6.cell? ⟨w5.heap.size, xs.length, none⟩ = some (.string x) := HSl6.out.at0 (by simp)
              have q2 : w6.cell? ⟨wr.heap.size, k, none⟩ = some (.string x) := HSl7.out.at0 HX.out
              have hbe : (x.toList == x.toList) = true := by simp
              have hsl : ∀ W : World, (Instr.slice 44 (.slice (some ⟨w5.heap.size, 0, none⟩) (xs.length + 1) (xs.length + 1)) none (some (.int .i64 (xs.length : Int))) none).run Try.prog W = .ok (.slice (some ⟨w5.heap.size, 0, none⟩) xs.length (xs.length + 1)) W := fun W => slice_high _ _ _ _ _ (by omega) (by omega) W
              have SAME : Hid (∀ q, Calls Try.prog 24 #[.slice (some ⟨w5.heap.size, 0, none⟩) xs.length (xs.length + 1), .slice (some ⟨wr.heap.size, 0, none⟩) xs.length c4] (w6.drewN q) fun e w' => e = .returned (.bool true) ∧ ∃ n, w' = (w6.drewN q).drewN n) := fun q => by
                have h6 : Strs w6 (some ⟨w5.heap.size, 0, none⟩) xs := by
                  rcases HSl6.out.strs with h | ⟨b, o, he, hlt, hc⟩
                  · exact absurd h (by simp)
                  · exact .inr ⟨b, o, he, hlt, fun j y hy => hc j y (by rw [List.getElem?_append_left (List.getElem?_eq_some_iff.1 hy).1]; exact hy)⟩
                have := same_any (some ⟨w5.heap.size, 0, none⟩) (some ⟨wr.heap.size, 0, none⟩) (xs.length + 1) c4 xs xs (w6.drewN q) (h6.drewN q) (HSl7.out.strs.drewN q) (by omega) (by omega)
                simpa using this
              have wxs : IntKind.i64.wrap ((xs.length : Int) + 1) = (xs.length : Int) + 1 := IntWalk.i64_in _ (by omega)
              rw [e1]
              go_wp2_with fail
              go_quiet ((go_at_call 24; exact quietly0 (SAME.out _)))
              go_wp2_with fail
              go_ret
              exact ⟨rfl, below_drewN H6.out.2.2.1.1 _⟩
        · have hno : (a2 < 0) ∨ (¬ a2 < 0 ∧ (xs.length : Int) ≤ a2) := by omega
          have HD := Lib.hid (FIN.out hno)
          clear FIN hin
          rcases hno with h | ⟨h1, h2⟩
          all_goals
            go_wp2_with fail
            refine (double_any a2 H4.out).mono ?_
            rintro e w5 ⟨rfl, v5, hM5, F5, _⟩
            have HSl5 := Lib.hid (HSl.out.kept HNB.out F5)
            have hw5 := F5.size
            rw [HD.out] at hM5
            simp only [HD.out]
            have H5 := Lib.hid hM5
            clear hM5 F5
            go_wp2_with fail
            refine (all_any H5.out).mono ?_
            rintro e w6 ⟨c6, rfl, hSl6, hb⟩
            have HSl6 := Lib.hid hSl6
            have HSl7 := Lib.hid (HSl5.out.below hb)
            have H6 := Lib.hid (H5.out.below hb)
            clear hSl6 hb
            go_wp2_with fail
            refine (same_any _ _ _ _ xs xs w6 HSl7.out.strs HSl6.out.strs (by omega) (by omega)).mono ?_
            rintro e w7 ⟨rfl, q, rfl⟩
            simp only [decide_true]
            go_wp2_with fail
            go_ret
            exact ⟨rfl, below_drewN H6.out.2.2.1.1 q⟩
end Go.Proofs.Ytplahkhohhbgaaa

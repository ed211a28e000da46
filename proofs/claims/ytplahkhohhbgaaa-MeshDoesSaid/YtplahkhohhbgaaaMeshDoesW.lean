/-
  The walk of the law MeshDoes.
-/
import Derived.Test.YtplahkhohhbgaaaMeshTw
namespace Go.Proofs.Ytplahkhohhbgaaa
open Go.RowKit Go.Proofs.Msh
set_option linter.unusedVariables false
set_option linter.unusedSimpArgs false
set_option maxRecDepth 100000 in
set_option maxHeartbeats 8000000 in
theorem does_walk (w : World) (a0 : Int) (A1 : Option Addr) (c1 : Nat) (l1 : List Deed) (S1 : Sa w A1 l1) (a2 : ByteArray) :
    Calls Try.prog 9 #[.int .i64 a0, .slice A1 l1.length c1, .string a2] w fun e w' => e = .returned (.bool true) ∧ Below w.heap.size w w' := by
  obtain ⟨R, hR⟩ : ∃ R : Nat, roomOf a0 = R := ⟨(roomOf a0).toNat, by have := roomOf_bd a0; omega⟩
  have hRb : 1 ≤ R ∧ R ≤ 64 := by have := roomOf_bd a0; omega
  have HR := Lib.hid hR
  have HS := Lib.hid S1
  clear hR S1
  go_enter Try.func9, Try.ntmps9
  go_wp2_with fail
  refine (works_any _).mono ?_
  rintro e w1 ⟨rfl, hb1⟩
  have HB1 := Lib.hid hb1
  clear hb1
  go_wp2_with fail
  refine (new_any a0 w w1 ⟨HB1.out, HB1.out.size⟩).mono ?_
  rintro e w2 ⟨rfl, hM, hb2⟩
  rw [HR.out] at hM
  have H2 := Lib.hid hM
  clear hM hb2
  go_wp2_with fail
  refine (few_any A1 c1 l1 w2 (HS.out.below (B := 0) H2.out.2.2.1.1)).mono ?_
  rintro e w3 ⟨rfl, rfl⟩
  rcases hf : fewF l1 with _ | _
  · go_wp2_with fail
    go_ret
    exact ⟨rfl, H2.out.2.2.1.1⟩
  · obtain ⟨hl100, _⟩ := fewF_true hf
    clear hf
    by_cases hs2 : a2.size ≤ 100
    · have i1 : ¬ (100 : Int) < (a2.size : Int) := by omega
      go_wp2_with fail
      refine (rnew_any a0 w2).mono ?_
      rintro e w3 ⟨rfl, hb3⟩
      rw [HR.out]
      have H3 := Lib.hid (H2.out.below hb3)
      have hT : Tw w w1.heap.size w3.heap.size R (.slice none 0 0) [] (.slice none 0 0) [] (w3.alloc (.cells #[.int .i64 R, .slice none 0 0] 59)) := by
        refine ⟨H3.out.below ((Below.refl _ _).alloc (Nat.le_refl _) _), Blk.new _ _ _, Rl.nil _, H3.out.2.2.1.2, ?_, fun i hi => by cases hi⟩
        intro h
        have := H3.out.own_lt _ h
        omega
      have HT := Lib.hid hT
      clear hT hb3 H2
      go_wp2_with fail
      generalize w3.alloc (.cells #[.int .i64 R, .slice none 0 0] 59) = w4 at *
      generalize w3.heap.size = G at *
      go_loopw [11] (fun vi wr => ∃ (k : Nat) (v u : Value) (xs : List ByteArray), vi = .int .i64 (k : Int) ∧ k ≤ l1.length ∧ Hid (Tw w w1.heap.size G R v xs u xs wr)) (fun vi _ => l1.length - (intOf vi).toNat)
      case atStart => exact ⟨0, _, _, [], rfl, Nat.zero_le _, HT⟩
      case round =>
        obtain ⟨k, v, u, xs, rfl, hk, HM⟩ := hrel
        by_cases hlt : k < l1.length
        · obtain ⟨a, ha⟩ : ∃ a, l1[k]? = some a := ⟨_, List.getElem?_eq_getElem hlt⟩
          have HAT := Lib.hid ha
          obtain ⟨b, o, rfl, hbl, d0, d1, d2, d3⟩ := (HS.out.below (B := 0) HM.out.1.2.2.1.1).at_ k a ha
          obtain ⟨ak, aks, an, ato⟩ := a
          simp only at d0 d1 d2 d3
          have j1 : (k : Int) < (l1.length : Int) := by omega
          have wk : IntKind.i64.wrap ((k : Int) + 1) = (k : Int) + 1 := IntWalk.i64_in _ (by omega)
          clear ha
          go_wp2_with fail
          refine (do_any ⟨ak, aks, an, ato⟩ HM.out.1).mono ?_
          rintro e w5 ⟨rfl, hMo⟩
          obtain ⟨v5, hT5⟩ := HM.out.done hMo
          clear d0 d1 d2 d3
          obtain ⟨b', o', he, hbl', d0, d1, d2, d3⟩ := (HS.out.below (B := 0) hT5.1.2.2.1.1).at_ k _ HAT.out
          cases he
          simp only at d0 d1 d2 d3
          obtain ⟨Au, cu, hu, _⟩ := id hT5.2.2.1
          have c0 := hT5.2.1.cell 0
          have c1' := hT5.2.1.cell 1
          simp only [List.getElem?_toArray, List.getElem?_cons_succ, List.getElem?_cons_zero] at c0 c1'
          obtain ⟨m0, hm0⟩ : ∃ m0, m0 = xs.length := ⟨_, rfl⟩
          rw [← hm0] at hu
          obtain ⟨⟨ys, t, ok⟩, hact⟩ : ∃ q, q = actF (R : Int) xs ⟨ak, aks, an, ato⟩ := ⟨_, rfl⟩
          subst hu
          rw [← hact] at hT5
          have BY : Hid (∀ W : World, Below w5.heap.size w5 W → Calls Try.prog 35 #[.agg #[.int .i64 (R : Int), .slice Au m0 cu], .agg #[.int .i64 ak, .string aks, .int .i64 an, .int .i64 ato]] W fun e w' => ∃ v', e = .returned (.tuple #[.agg #[.int .i64 (R : Int), v'], .string t, .bool ok]) ∧ Rz W (.slice Au m0 cu) w' v' ys ∧ Below W.heap.size W w') := Lib.hid (fun W hW => by
            have h := rby_any R (.slice Au m0 cu) xs ⟨ak, aks, an, ato⟩ W (hT5.2.2.1.below hW) (by have := HM.out.1.len; omega) HM.out.1.2.2.2.1
            rw [← hact] at h
            exact h)
          have H5 : Hid (Tw w w1.heap.size G R v5 ys (.slice Au m0 cu) xs w5) := Lib.hid hT5
          rw [← hact]
          dsimp only
          have f1 := hT5.2.1.frozen 1
          have f0 := hT5.2.1.frozen 0
          have S5 : Hid (∀ W : World, Below w5.heap.size w5 W → W.cell? ⟨G, 0, none⟩ = some (.int .i64 (R : Int)) ∧ W.cell? ⟨G, 1, none⟩ = some (.slice Au m0 cu) ∧ W.cell? ⟨b, o + k * 4, none⟩ = some (.int .i64 ak) ∧ W.cell? ⟨b, o + k * 4 + 1, none⟩ = some (.string aks) ∧ W.cell? ⟨b, o + k * 4 + 2, none⟩ = some (.int .i64 an) ∧ W.cell? ⟨b, o + k * 4 + 3, none⟩ = some (.int .i64 ato)) := Lib.hid (fun W hW =>
            ⟨(hW.cell (p := ⟨G, 0, none⟩) hT5.2.1.lt).trans c0, (hW.cell (p := ⟨G, 1, none⟩) hT5.2.1.lt).trans c1', (hW.cell (p := ⟨b, _, none⟩) hbl').trans d0, (hW.cell (p := ⟨b, _, none⟩) hbl').trans d1, (hW.cell (p := ⟨b, _, none⟩) hbl').trans d2, (hW.cell (p := ⟨b, _, none⟩) hbl').trans d3⟩)
          have E0 : Hid (Below w5.heap.size w5 w5.drew) := Lib.hid ((Below.refl _ _).drew)
          have E1 : Hid (Below w5.heap.size w5 ((w5.alloc (.cells #[.int .i64 0, .slice none 0 0] 59)).drew)) := Lib.hid (((Below.refl _ _).alloc (Nat.le_refl _) _).drew)
          have K1 : Hid (Blk ((w5.alloc (.cells #[.int .i64 0, .slice none 0 0] 59)).drew) w5.heap.size 59 #[.int .i64 0, .slice none 0 0]) := Lib.hid (Blk.new w5 _ _)
          clear hT5 hMo hbl hbl' hm0 hact
          go_wp2_with fail
          go_region_held3 (fun W => W.cell? ⟨G, 0, none⟩ = some (.int .i64 (R : Int)) ∧ W.cell? ⟨G, 1, none⟩ = some (.slice Au m0 cu) ∧ W.cell? ⟨b, o + k * 4, none⟩ = some (.int .i64 ak) ∧ W.cell? ⟨b, o + k * 4 + 1, none⟩ = some (.string aks) ∧ W.cell? ⟨b, o + k * 4 + 2, none⟩ = some (.int .i64 an) ∧ W.cell? ⟨b, o + k * 4 + 3, none⟩ = some (.int .i64 ato))
            (first | exact S5.out _ E0.out | exact S5.out _ E1.out | exact S5.out _ B6.out | exact S5.out _ (B6.out.alloc LE6.out _) | exact S5.out _ ((B6.out.setCell (p := ⟨w5.heap.size, 0, none⟩) (Nat.le_refl _) _).setCell (p := ⟨w5.heap.size, 1, none⟩) (Nat.le_refl _) _))
            (first
              | (go_at_call 35; refine (BY.out _ E0.out).mono ?_; rintro e w6 ⟨u6, rfl, hz6, hb6⟩; (try dsimp only at hz6); obtain ⟨A6, c6, hu6, _⟩ := id hz6.1; have B6 := Lib.hid (E0.out.trans (hb6.mono E0.out.size)); have LE6 := Lib.hid B6.out.size; subst hu6; have Z6 := Lib.hid (Rz.later hz6 E0.out.size hz6.1 (Nat.le_refl _)); clear hz6 hb6)
              | (go_at_call 35; refine (BY.out _ E1.out).mono ?_; rintro e w6 ⟨u6, rfl, hz6, hb6⟩; (try dsimp only at hz6); obtain ⟨A6, c6, hu6, _⟩ := id hz6.1; have B6 := Lib.hid (E1.out.trans (hb6.mono E1.out.size)); have LE6 := Lib.hid B6.out.size; subst hu6; have Z6 := Lib.hid (Rz.later hz6 E1.out.size hz6.1 (Nat.le_refl _)); have k1 := K1.out.below hb6; have x0 := k1.cell 0; have x1 := k1.cell 1; have y0 := k1.frozen 0; have y1 := k1.frozen 1; simp only [List.getElem?_toArray, List.getElem?_cons_succ, List.getElem?_cons_zero] at x0 x1; have K6 := Lib.hid k1; clear hz6 hb6 k1))
          · obtain ⟨u6, hu6⟩ : ∃ u6, u6 = Value.slice A6 ys.length c6 := ⟨_, rfl⟩
            have b7 := B6.out.alloc LE6.out (.cells #[.int .i64 (R : Int), .slice A6 ys.length c6] 59)
            have z7 : Rz w5 (.slice Au m0 cu) (w6.alloc (.cells #[.int .i64 (R : Int), .slice A6 ys.length c6] 59)) (.slice A6 ys.length c6) ys := Rz.later Z6.out (Nat.le_refl _) (Z6.out.1.below ((Below.refl _ _).alloc (Nat.le_refl _) _)) (by simp)
            have q7 := Blk.new w6 59 #[.int .i64 (R : Int), .slice A6 ys.length c6]
            generalize w6.alloc (.cells #[.int .i64 (R : Int), .slice A6 ys.length c6] 59) = W7 at *
            generalize w6.heap.size = g7 at *
            have B7 := Lib.hid b7
            have Z7 := Lib.hid z7
            have Q7 := Lib.hid q7
            clear b7 z7 q7 B6 LE6 Z6 hu6
            have r0 := Q7.out.cell 0
            have r1 := Q7.out.cell 1
            have bg := H5.out.2.1.below B7.out
            have t0 := bg.cell 0
            have t1 := bg.cell 1
            have y0 := bg.frozen 0
            have y1 := bg.frozen 1
            simp only [List.getElem?_toArray, List.getElem?_cons_succ, List.getElem?_cons_zero] at r0 r1 t0 t1
            have T8 := Lib.hid (H5.out.store B7.out Z7.out)
            clear bg
            go_wp2_with fail
            generalize (W7.setCell ⟨G, 0, none⟩ (.int .i64 (R : Int))).setCell ⟨G, 1, none⟩ (.slice A6 ys.length c6) = W8 at *
            have hy64 : ys.length ≤ 64 := T8.out.1.len
            have KEY : Hid (∀ W : World, Tw w w1.heap.size G R v5 ys (.slice A6 ys.length c6) ys W → W.cell? ⟨G, 1, none⟩ = some (.slice A6 ys.length c6)) := Lib.hid (fun W h => by rw [h.2.1.cell]; rfl)
            have TD : Hid (Tw w w1.heap.size G R v5 ys (.slice A6 ys.length c6) ys W8.drew) := Lib.hid (T8.out.below ((Below.refl _ _).drew))
            have hst : ∀ W : World, Rl W (.slice A6 ys.length c6) ys → Strs W A6 ys := fun W h => by
              obtain ⟨A', c', e, hs, _⟩ := h
              cases e
              exact hs
            have HST := Lib.hid hst
            clear hst r0 r1 t0 t1 y0 y1 T8 Q7 Z7 B7 H5 BY S5 E0 E1 K1 c0 c1' d0 d1 d2 d3 f0 f1
            go_region_held3 (fun W => W.cell? ⟨G, 1, none⟩ = some (.slice A6 ys.length c6))
              (first | exact KEY.out _ TD.out | exact KEY.out _ T9.out | exact KEY.out _ (TN.out _))
              (first
                | (go_at_call 36; refine (all_any TD.out.1).mono ?_; rintro e w9 ⟨c9, rfl, hS9, hb9⟩; have T9 := Lib.hid (TD.out.below hb9); have S9 := Lib.hid hS9.strs; clear hS9 hb9)
                | (go_at_call 24; refine (same_any _ A6 c9 c6 ys ys w9 S9.out (HST.out _ T9.out.2.2.1) (by omega) (by omega)).mono ?_; rintro e w10 ⟨rfl, q, rfl⟩; rw [show decide (ys = ys) = true from decide_eq_true rfl]; have TN : Hid (∀ N : Nat, Tw w w1.heap.size G R v5 ys (.slice A6 ys.length c6) ys (w9.drewN N)) := Lib.hid (fun N => T9.out.below (below_drewN (Below.refl _ _) N)))
                | (go_at_call 37; refine (count_any a2 (TN.out _).1).mono ?_; rintro e w11 ⟨rfl, q2, rfl⟩)
                | (go_at_call 38; refine (rcount_any A6 c6 ys a2 _ (HST.out _ (TN.out _).2.2.1) (by omega)).mono ?_; rintro e w12 ⟨rfl, q3, rfl⟩))
            all_goals
              go_wp2_with fail
              refine ⟨⟨k + 1, v5, _, ys, by go_num, by omega, Lib.hid (TN.out _)⟩, ?_⟩
              simp [intOf]; omega
          · have b7 := (B6.out.setCell (p := ⟨w5.heap.size, 0, none⟩) (Nat.le_refl _) (.int .i64 (R : Int))).setCell (p := ⟨w5.heap.size, 1, none⟩) (Nat.le_refl _) (.slice A6 ys.length c6)
            have F6 : Far (fun i => i = w5.heap.size) w6 ((w6.setCell ⟨w5.heap.size, 0, none⟩ (.int .i64 (R : Int))).setCell ⟨w5.heap.size, 1, none⟩ (.slice A6 ys.length c6)) := ((Far.refl (fun i => i = w5.heap.size) w6).setCell (p := ⟨w5.heap.size, 0, none⟩) (fun _ => rfl) _).setCell (p := ⟨w5.heap.size, 1, none⟩) (fun _ => rfl) _
            have z7 : Rz w5 (.slice Au m0 cu) ((w6.setCell ⟨w5.heap.size, 0, none⟩ (.int .i64 (R : Int))).setCell ⟨w5.heap.size, 1, none⟩ (.slice A6 ys.length c6)) (.slice A6 ys.length c6) ys := Rz.later Z6.out (Nat.le_refl _) (Rl.past Z6.out.1 K6.out (by intro i y; rcases i with _ | _ | i <;> simp) F6) (by simp [World.setCell])
            have q7 := (K6.out.set 0 (.int .i64 (R : Int))).set 1 (.slice A6 ys.length c6)
            simp only [List.setIfInBounds_toArray, List.set_cons_zero, List.set_cons_succ] at q7
            generalize (w6.setCell ⟨w5.heap.size, 0, none⟩ (.int .i64 (R : Int))).setCell ⟨w5.heap.size, 1, none⟩ (.slice A6 ys.length c6) = W7 at *
            obtain ⟨g7, hg7⟩ : ∃ g7, g7 = w5.heap.size := ⟨_, rfl⟩
            rw [← hg7] at q7
            rw [← hg7]
            have B7 := Lib.hid b7
            have Z7 := Lib.hid z7
            have Q7 := Lib.hid q7
            clear b7 z7 q7 B6 LE6 Z6 F6 K6 x0 x1 y0 y1 hg7
            have r0 := Q7.out.cell 0
            have r1 := Q7.out.cell 1
            have bg := H5.out.2.1.below B7.out
            have t0 := bg.cell 0
            have t1 := bg.cell 1
            have y0 := bg.frozen 0
            have y1 := bg.frozen 1
            simp only [List.getElem?_toArray, List.getElem?_cons_succ, List.getElem?_cons_zero] at r0 r1 t0 t1
            have T8 := Lib.hid (H5.out.store B7.out Z7.out)
            clear bg
            go_wp2_with fail
            generalize (W7.setCell ⟨G, 0, none⟩ (.int .i64 (R : Int))).setCell ⟨G, 1, none⟩ (.slice A6 ys.length c6) = W8 at *
            have hy64 : ys.length ≤ 64 := T8.out.1.len
            have KEY : Hid (∀ W : World, Tw w w1.heap.size G R v5 ys (.slice A6 ys.length c6) ys W → W.cell? ⟨G, 1, none⟩ = some (.slice A6 ys.length c6)) := Lib.hid (fun W h => by rw [h.2.1.cell]; rfl)
            have TD : Hid (Tw w w1.heap.size G R v5 ys (.slice A6 ys.length c6) ys W8.drew) := Lib.hid (T8.out.below ((Below.refl _ _).drew))
            have hst : ∀ W : World, Rl W (.slice A6 ys.length c6) ys → Strs W A6 ys := fun W h => by
              obtain ⟨A', c', e, hs, _⟩ := h
              cases e
              exact hs
            have HST := Lib.hid hst
            clear hst r0 r1 t0 t1 y0 y1 T8 Q7 Z7 B7 H5 BY S5 E0 E1 K1 c0 c1' d0 d1 d2 d3 f0 f1
            go_region_held3 (fun W => W.cell? ⟨G, 1, none⟩ = some (.slice A6 ys.length c6))
              (first | exact KEY.out _ TD.out | exact KEY.out _ T9.out | exact KEY.out _ (TN.out _))
              (first
                | (go_at_call 36; refine (all_any TD.out.1).mono ?_; rintro e w9 ⟨c9, rfl, hS9, hb9⟩; have T9 := Lib.hid (TD.out.below hb9); have S9 := Lib.hid hS9.strs; clear hS9 hb9)
                | (go_at_call 24; refine (same_any _ A6 c9 c6 ys ys w9 S9.out (HST.out _ T9.out.2.2.1) (by omega) (by omega)).mono ?_; rintro e w10 ⟨rfl, q, rfl⟩; rw [show decide (ys = ys) = true from decide_eq_true rfl]; have TN : Hid (∀ N : Nat, Tw w w1.heap.size G R v5 ys (.slice A6 ys.length c6) ys (w9.drewN N)) := Lib.hid (fun N => T9.out.below (below_drewN (Below.refl _ _) N)))
                | (go_at_call 37; refine (count_any a2 (TN.out _).1).mono ?_; rintro e w11 ⟨rfl, q2, rfl⟩)
                | (go_at_call 38; refine (rcount_any A6 c6 ys a2 _ (HST.out _ (TN.out _).2.2.1) (by omega)).mono ?_; rintro e w12 ⟨rfl, q3, rfl⟩))
            all_goals
              go_wp2_with fail
              refine ⟨⟨k + 1, v5, _, ys, by go_num, by omega, Lib.hid (TN.out _)⟩, ?_⟩
              simp [intOf]; omega
        · obtain rfl : k = l1.length := by omega
          go_wp2_with fail
          go_ret
          exact ⟨rfl, HM.out.1.2.2.1.1⟩
    · have i1 : (100 : Int) < (a2.size : Int) := by omega
      go_wp2_with fail
      go_ret
      exact ⟨rfl, H2.out.2.2.1.1⟩
end Go.Proofs.Ytplahkhohhbgaaa

/-
  The document's answer for mesh (guillocheref19): an act, as the law's package does it.
-/
import Derived.Test.YtplahkhohhbgaaaMeshRefM
namespace Go.Proofs.Ytplahkhohhbgaaa
open Go.RowKit Go.Proofs.Msh
set_option linter.unusedVariables false
set_option linter.unusedSimpArgs false
theorem rthere_some {xs : List ByteArray} {n : Int} {x : ByteArray} (h : getAt xs n = some x) : ∃ k : Nat, n = k ∧ k < xs.length ∧ xs[k]? = some x ∧ n.toNat = k := getAt_some h
theorem rtake_any (R : Int) (v : Value) (xs : List ByteArray) (n : Int) (w : World) (hV : Rl w v xs) (hl : xs.length ≤ 1000) :
    Calls Try.prog 54 #[.agg #[.int .i64 R, v], .int .i64 n] w fun e w' => ∃ v', e = .returned (.tuple #[.agg #[.int .i64 R, v'], .string (takeF xs n).2.1, .bool (takeF xs n).2.2]) ∧ Rz w v w' v' (takeF xs n).1 ∧ Below w.heap.size w w' := by
  unfold takeF
  rcases hg : getAt xs n with _ | x
  · exact rtake_no R v xs n w hV hl hg
  · obtain ⟨k, rfl, hk, hx, hkn⟩ := getAt_some hg
    have := rtake_yes R v xs k x w hV hl hx
    simp only [hkn]
    exact this
theorem rdouble_any (R : Int) (v : Value) (xs : List ByteArray) (n : Int) (w : World) (hV : Rl w v xs) (hl : xs.length ≤ 1000) (hle : (xs.length : Int) ≤ R) :
    Calls Try.prog 55 #[.agg #[.int .i64 R, v], .int .i64 n] w fun e w' => ∃ v', e = .returned (.tuple #[.agg #[.int .i64 R, v'], .bool (doubleF R xs n).2]) ∧ Rz w v w' v' (doubleF R xs n).1 ∧ Below w.heap.size w w' := by
  unfold doubleF
  rcases hg : getAt xs n with _ | x
  · exact rdouble_no R v xs n w hV hl (by rw [getAt_there, hg]; rfl)
  · obtain ⟨k, rfl, hk, hx, hkn⟩ := getAt_some hg
    exact rdouble_yes R v xs k x w hV hl hle hx
theorem rmove_any (R : Int) (v : Value) (xs : List ByteArray) (n to : Int) (w : World) (hV : Rl w v xs) (hl : xs.length ≤ 1000) :
    Calls Try.prog 56 #[.agg #[.int .i64 R, v], .int .i64 n, .int .i64 to] w fun e w' => ∃ v', e = .returned (.tuple #[.agg #[.int .i64 R, v'], .bool (moveF xs n to).2]) ∧ Rz w v w' v' (moveF xs n to).1 ∧ Below w.heap.size w w' := by
  unfold moveF
  rcases hg : getAt xs n with _ | x
  · exact rmove_no R v xs n to w hV hl (.inl (by rw [getAt_there, hg]; rfl))
  · rcases ht : getAt xs to with _ | y
    · exact rmove_no R v xs n to w hV hl (.inr ⟨by rw [getAt_there, hg]; rfl, by rw [getAt_there, ht]; rfl⟩)
    · obtain ⟨k, rfl, hk, hx, hkn⟩ := getAt_some hg
      obtain ⟨t, rfl, htl, hy, htn⟩ := getAt_some ht
      have := rmove_yes R v xs k t x w hV hl hx htl
      simp only [hkn, htn]
      exact this
/-- What is told at the end lies in memory. -/
theorem by_end {w w1 : World} {g : Nat} (R : Int) {v : Value} {a c : Value} {ys : List ByteArray} (hg : w.heap.size ≤ g) (B : Blk w1 g 59 #[a, c]) (hac : ∀ (i : Nat) (x : ByteArray), (#[a, c] : Array Value)[i]? ≠ some (.string x)) (hb : Bl w.heap.size w w1) (hR : Rl w1 v ys) :
    ((w1.setCell ⟨g, 0, none⟩ (.int .i64 R)).setCell ⟨g, 1, none⟩ v).cell? ⟨g, 0, none⟩ = some (.int .i64 R) ∧
    ((w1.setCell ⟨g, 0, none⟩ (.int .i64 R)).setCell ⟨g, 1, none⟩ v).cell? ⟨g, 1, none⟩ = some v ∧
    Rl ((w1.setCell ⟨g, 0, none⟩ (.int .i64 R)).setCell ⟨g, 1, none⟩ v) v ys ∧
    Below w.heap.size w ((w1.setCell ⟨g, 0, none⟩ (.int .i64 R)).setCell ⟨g, 1, none⟩ v) := by
  have q0 : Blk ((w1.setCell ⟨g, 0, none⟩ (.int .i64 R)).setCell ⟨g, 1, none⟩ v) g 59 #[.int .i64 R, v] := by
    have := ((B.set 0 (.int .i64 R)).set 1 v)
    simpa using this
  have F : Far (fun i => i = g) w1 ((w1.setCell ⟨g, 0, none⟩ (.int .i64 R)).setCell ⟨g, 1, none⟩ v) := ((Far.refl (fun i => i = g) w1).setCell (p := ⟨g, 0, none⟩) (fun _ => rfl) _).setCell (p := ⟨g, 1, none⟩) (fun _ => rfl) _
  exact ⟨by rw [q0.cell]; rfl, by rw [q0.cell]; rfl, Rl.past hR B hac F, (Far.bl hb F (fun i hi => by omega)).1⟩
theorem by_alloc {w W : World} {g : Nat} {x y v : Value} {ys : List ByteArray} (h : W.cell? ⟨g, 0, none⟩ = some x ∧ W.cell? ⟨g, 1, none⟩ = some y ∧ Rl W v ys ∧ Below w.heap.size w W) (hg : g < W.heap.size) (o : Obj) :
    (W.alloc o).cell? ⟨g, 0, none⟩ = some x ∧ (W.alloc o).cell? ⟨g, 1, none⟩ = some y ∧ Rl (W.alloc o) v ys ∧ Below w.heap.size w (W.alloc o) :=
  ⟨(World.cell?_of_block (a := ⟨g, 0, none⟩) (Below.heap_alloc W o g hg)).trans h.1, (World.cell?_of_block (a := ⟨g, 1, none⟩) (Below.heap_alloc W o g hg)).trans h.2.1, h.2.2.1.below ((Below.refl _ _).alloc (Nat.le_refl _) _), h.2.2.2.alloc h.2.2.2.size o⟩
set_option maxHeartbeats 4000000 in
theorem rby_any (R : Int) (v : Value) (xs : List ByteArray) (a : Deed) (w : World) (hV : Rl w v xs) (hl : xs.length ≤ 1000) (hle : (xs.length : Int) ≤ R) :
    Calls Try.prog 35 #[.agg #[.int .i64 R, v], .agg #[.int .i64 a.k, .string a.s, .int .i64 a.n, .int .i64 a.to]] w fun e w' => ∃ v', e = .returned (.tuple #[.agg #[.int .i64 R, v'], .string (actF R xs a).2.1, .bool (actF R xs a).2.2]) ∧ Rz w v w' v' (actF R xs a).1 ∧ Below w.heap.size w w' := by
  obtain ⟨ak, aks, an, ato⟩ := a
  obtain ⟨A, c, rfl, hS, hm, hc⟩ := hV
  have HV : Hid (Rl w (.slice A xs.length c) xs) := Lib.hid ⟨A, c, rfl, hS, hm, hc⟩
  clear hS hm hc
  have hac : ∀ (i : Nat) (x : ByteArray), (#[Value.int .i64 0, Value.slice none 0 0] : Array Value)[i]? ≠ some (.string x) := by
    intro i x; rcases i with _ | _ | i <;> simp
  obtain ⟨W, hW⟩ : ∃ W, W = (((w.alloc (.cells #[.int .i64 R, .slice A xs.length c] 59)).alloc (.cells #[.int .i64 ak, .string aks, .int .i64 an, .int .i64 ato] 63)).alloc (.cells #[.int .i64 0, .slice none 0 0] 59)) := ⟨_, rfl⟩
  have k3 : Blk W (w.heap.size + 1 + 1) 59 #[.int .i64 0, .slice none 0 0] := by
    have := Blk.new ((w.alloc (.cells #[.int .i64 R, .slice A xs.length c] 59)).alloc (.cells #[.int .i64 ak, .string aks, .int .i64 an, .int .i64 ato] 63)) 59 #[.int .i64 0, .slice none 0 0]
    rw [hW]
    simpa using this
  have k4 : Bl w.heap.size w W := by rw [hW]; exact (((Bl.start w).alloc _).alloc _).alloc _
  have K3 := Lib.hid k3
  have K4 := Lib.hid k4
  have HAC := Lib.hid hac
  have RV := Lib.hid (HV.out.below k4.1)
  clear k3 k4 hac
  subst hW
  -- what follows a call
  have fin : ∀ (w1 : World) (v1 : Value) (ys : List ByteArray), Below (((w.alloc (.cells #[.int .i64 R, .slice A xs.length c] 59)).alloc (.cells #[.int .i64 ak, .string aks, .int .i64 an, .int .i64 ato] 63)).alloc (.cells #[.int .i64 0, .slice none 0 0] 59)).heap.size (((w.alloc (.cells #[.int .i64 R, .slice A xs.length c] 59)).alloc (.cells #[.int .i64 ak, .string aks, .int .i64 an, .int .i64 ato] 63)).alloc (.cells #[.int .i64 0, .slice none 0 0] 59)) w1 → Rl w1 v1 ys →
      Blk w1 (w.heap.size + 1 + 1) 59 #[.int .i64 0, .slice none 0 0] ∧ Bl w.heap.size w w1 ∧ Rl w1 v1 ys := fun w1 v1 ys hb h => ⟨K3.out.below hb, K4.out.call hb, h⟩
  have FIN := Lib.hid fin
  clear fin
  unfold actF
  dsimp only
  by_cases h0 : ak = 0
  · subst h0
    rw [if_pos rfl]
    go_enter Try.func35, Try.ntmps35
    go_wp2_with fail
    refine (rsend_any R _ xs aks _ RV.out hl hle).mono ?_
    rintro e w1 ⟨v1, rfl, ⟨hR1, hf1⟩, hb⟩
    have HF1 := Lib.hid (show Rz _ _ _ _ _ from ⟨hR1, hf1⟩)
    clear hf1
    obtain ⟨b1, b2, b3⟩ := FIN.out w1 v1 _ hb hR1
    have d0 := b1.cell 0
    have d1 := b1.cell 1
    have g0 := b1.frozen 0
    have g1 := b1.frozen 1
    have hlt := b1.lt
    simp only [List.getElem?_toArray, List.getElem?_cons_succ, List.getElem?_cons_zero] at d0 d1
    obtain ⟨A1, c1, hv1, _⟩ := id hR1
    have B1 := Lib.hid b1
    have B2 := Lib.hid b2
    have B3 := Lib.hid b3
    obtain ⟨m1, hm1⟩ : ∃ m1, m1 = (sendF R xs aks).1.length := ⟨_, rfl⟩
    rw [← hm1] at hv1
    subst hv1
    clear b1 b2 b3 hb hR1 hm1
    go_wp2_with fail
    obtain ⟨e0, e1, e2, e3⟩ := by_alloc (by_end R (by omega) B1.out HAC.out B2.out B3.out) (by simp; exact hlt) (.cells #[.int .i64 R, .slice A1 m1 c1] 59)
    exact bodyPost_ret (results_mesh3 rfl _ _ _ rfl rfl rfl e0 e1) rfl ⟨_, rfl, Rz.later HF1.out K4.out.2 e2 (by simp [World.setCell]), e3⟩
  · rw [if_neg h0]
    by_cases h1 : ak = 1
    · subst h1
      rw [if_pos rfl]
      clear h0
      go_enter Try.func35, Try.ntmps35
      go_wp2_with fail
      refine (rtake_any R _ xs an _ RV.out hl).mono ?_
      rintro e w1 ⟨v1, rfl, ⟨hR1, hf1⟩, hb⟩
      have HF1 := Lib.hid (show Rz _ _ _ _ _ from ⟨hR1, hf1⟩)
      clear hf1
      obtain ⟨b1, b2, b3⟩ := FIN.out w1 v1 _ hb hR1
      have d0 := b1.cell 0
      have d1 := b1.cell 1
      have g0 := b1.frozen 0
      have g1 := b1.frozen 1
      have hlt := b1.lt
      simp only [List.getElem?_toArray, List.getElem?_cons_succ, List.getElem?_cons_zero] at d0 d1
      obtain ⟨A1, c1, hv1, _⟩ := id hR1
      have B1 := Lib.hid b1
      have B2 := Lib.hid b2
      have B3 := Lib.hid b3
      obtain ⟨m1, hm1⟩ : ∃ m1, m1 = (takeF xs an).1.length := ⟨_, rfl⟩
      rw [← hm1] at hv1
      subst hv1
      clear b1 b2 b3 hb hR1 hm1
      go_wp2_with fail
      obtain ⟨e0, e1, e2, e3⟩ := by_end R (by omega) B1.out HAC.out B2.out B3.out
      exact bodyPost_ret (results_mesh3 rfl _ _ _ rfl rfl rfl e0 e1) rfl ⟨_, rfl, Rz.later HF1.out K4.out.2 e2 (by simp [World.setCell]), e3⟩
    · rw [if_neg h1]
      by_cases h2 : ak = 2
      · subst h2
        rw [if_pos rfl]
        clear h0 h1
        go_enter Try.func35, Try.ntmps35
        go_wp2_with fail
        refine (rtake_any R _ xs an _ RV.out hl).mono ?_
        rintro e w1 ⟨v1, rfl, ⟨hR1, hf1⟩, hb⟩
        have HF1 := Lib.hid (show Rz _ _ _ _ _ from ⟨hR1, hf1⟩)
        clear hf1
        obtain ⟨b1, b2, b3⟩ := FIN.out w1 v1 _ hb hR1
        have d0 := b1.cell 0
        have d1 := b1.cell 1
        have g0 := b1.frozen 0
        have g1 := b1.frozen 1
        have hlt := b1.lt
        simp only [List.getElem?_toArray, List.getElem?_cons_succ, List.getElem?_cons_zero] at d0 d1
        obtain ⟨A1, c1, hv1, _⟩ := id hR1
        have B1 := Lib.hid b1
        have B2 := Lib.hid b2
        have B3 := Lib.hid b3
        obtain ⟨m1, hm1⟩ : ∃ m1, m1 = (takeF xs an).1.length := ⟨_, rfl⟩
        rw [← hm1] at hv1
        subst hv1
        clear b1 b2 b3 hb hR1 hm1
        go_wp2_with fail
        obtain ⟨e0, e1, e2, e3⟩ := by_alloc (by_end R (by omega) B1.out HAC.out B2.out B3.out) (by simp; exact hlt) (.cells #[.int .i64 R, .slice A1 m1 c1] 59)
        exact bodyPost_ret (results_mesh3 rfl _ _ _ rfl rfl rfl e0 e1) rfl ⟨_, rfl, Rz.later HF1.out K4.out.2 e2 (by simp [World.setCell]), e3⟩
      · rw [if_neg h2]
        by_cases h3 : ak = 3
        · subst h3
          rw [if_pos rfl]
          clear h0 h1 h2
          go_enter Try.func35, Try.ntmps35
          go_wp2_with fail
          refine (rdouble_any R _ xs an _ RV.out hl hle).mono ?_
          rintro e w1 ⟨v1, rfl, ⟨hR1, hf1⟩, hb⟩
          have HF1 := Lib.hid (show Rz _ _ _ _ _ from ⟨hR1, hf1⟩)
          clear hf1
          obtain ⟨b1, b2, b3⟩ := FIN.out w1 v1 _ hb hR1
          have d0 := b1.cell 0
          have d1 := b1.cell 1
          have g0 := b1.frozen 0
          have g1 := b1.frozen 1
          have hlt := b1.lt
          simp only [List.getElem?_toArray, List.getElem?_cons_succ, List.getElem?_cons_zero] at d0 d1
          obtain ⟨A1, c1, hv1, _⟩ := id hR1
          have B1 := Lib.hid b1
          have B2 := Lib.hid b2
          have B3 := Lib.hid b3
          obtain ⟨m1, hm1⟩ : ∃ m1, m1 = (doubleF R xs an).1.length := ⟨_, rfl⟩
          rw [← hm1] at hv1
          subst hv1
          clear b1 b2 b3 hb hR1 hm1
          go_wp2_with fail
          obtain ⟨e0, e1, e2, e3⟩ := by_alloc (by_end R (by omega) B1.out HAC.out B2.out B3.out) (by simp; exact hlt) (.cells #[.int .i64 R, .slice A1 m1 c1] 59)
          exact bodyPost_ret (results_mesh3 rfl _ _ _ rfl rfl rfl e0 e1) rfl ⟨_, rfl, Rz.later HF1.out K4.out.2 e2 (by simp [World.setCell]), e3⟩
        · rw [if_neg h3]
          go_enter Try.func35, Try.ntmps35
          go_wp2_with fail
          refine (rmove_any R _ xs an ato _ RV.out hl).mono ?_
          rintro e w1 ⟨v1, rfl, ⟨hR1, hf1⟩, hb⟩
          have HF1 := Lib.hid (show Rz _ _ _ _ _ from ⟨hR1, hf1⟩)
          clear hf1
          obtain ⟨b1, b2, b3⟩ := FIN.out w1 v1 _ hb hR1
          have d0 := b1.cell 0
          have d1 := b1.cell 1
          have g0 := b1.frozen 0
          have g1 := b1.frozen 1
          have hlt := b1.lt
          simp only [List.getElem?_toArray, List.getElem?_cons_succ, List.getElem?_cons_zero] at d0 d1
          obtain ⟨A1, c1, hv1, _⟩ := id hR1
          have B1 := Lib.hid b1
          have B2 := Lib.hid b2
          have B3 := Lib.hid b3
          obtain ⟨m1, hm1⟩ : ∃ m1, m1 = (moveF xs an ato).1.length := ⟨_, rfl⟩
          rw [← hm1] at hv1
          subst hv1
          clear b1 b2 b3 hb hR1 hm1
          go_wp2_with fail
          obtain ⟨e0, e1, e2, e3⟩ := by_alloc (by_end R (by omega) B1.out HAC.out B2.out B3.out) (by simp; exact hlt) (.cells #[.int .i64 R, .slice A1 m1 c1] 59)
          exact bodyPost_ret (results_mesh3 rfl _ _ _ rfl rfl rfl e0 e1) rfl ⟨_, rfl, Rz.later HF1.out K4.out.2 e2 (by simp [World.setCell]), e3⟩
end Go.Proofs.Ytplahkhohhbgaaa

/-
  The document's answer for mesh (guillocheref19): Double.
-/
import Derived.Test.YtplahkhohhbgaaaMeshRefS
namespace Go.Proofs.Ytplahkhohhbgaaa
open Go.RowKit Go.Proofs.Msh
set_option linter.unusedVariables false
set_option linter.unusedSimpArgs false
set_option maxHeartbeats 4000000 in
theorem rdouble_no (R : Int) (v : Value) (xs : List ByteArray) (n : Int) (w : World) (hV : Rl w v xs) (hl : xs.length ≤ 1000) (hn : decide (0 ≤ n ∧ n < (xs.length : Int)) = false) :
    Calls Try.prog 55 #[.agg #[.int .i64 R, v], .int .i64 n] w fun e w' => ∃ v', e = .returned (.tuple #[.agg #[.int .i64 R, v'], .bool false]) ∧ Rz w v w' v' xs ∧ Below w.heap.size w w' := by
  obtain ⟨A, c, rfl, hS, hm, hc⟩ := hV
  have HV : Hid (Rl w (.slice A xs.length c) xs) := Lib.hid ⟨A, c, rfl, hS, hm, hc⟩
  clear hS hm hc
  obtain ⟨k1, k2, k3, k4⟩ := boxes w R (.slice A xs.length c)
  have K1 := Lib.hid k1
  have K2 := Lib.hid k2
  have K3 := Lib.hid k3
  clear k1 k2 k3 k4
  have HT := Lib.hid hn
  clear hn
  go_enter Try.func55, Try.ntmps55
  go_wp2_with fail
  refine (rthere_any R A xs.length c n _).mono ?_
  rintro e w1 ⟨rfl, hb⟩
  rw [HT.out]
  have b1 := K1.out.below hb
  have b2 := K2.out.below hb
  have b3 := K3.out.call hb
  have c0 := b1.cell 0
  have c1 := b1.cell 1
  have d0 := b2.cell 0
  have d1 := b2.cell 1
  have g0 := b2.frozen 0
  have g1 := b2.frozen 1
  simp only [List.getElem?_toArray, List.getElem?_cons_succ, List.getElem?_cons_zero] at c0 c1 d0 d1
  have B2 := Lib.hid b2
  have B3 := Lib.hid b3
  clear b1 b2 b3 hb K1 K2 K3
  go_wp2_with fail
  have q0 : Blk ((w1.setCell ⟨w.heap.size + 1, 0, none⟩ (.int .i64 R)).setCell ⟨w.heap.size + 1, 1, none⟩ (.slice A xs.length c)) (w.heap.size + 1) 59 #[.int .i64 R, .slice A xs.length c] := by
    have := ((B2.out.set 0 (.int .i64 R)).set 1 (.slice A xs.length c))
    simpa using this
  have e0 := q0.cell 0
  have e1 := q0.cell 1
  simp only [List.getElem?_toArray, List.getElem?_cons_succ, List.getElem?_cons_zero] at e0 e1
  have bf := ((B3.out.setCell (p := ⟨w.heap.size + 1, 0, none⟩) (by simp) (.int .i64 R)).setCell (p := ⟨w.heap.size + 1, 1, none⟩) (by simp) (.slice A xs.length c)).1
  exact bodyPost_ret (results_mesh2 rfl _ _ _ rfl rfl e0 e1) rfl ⟨_, rfl, Rz.same (HV.out.below bf), bf⟩
theorem Rl.past {w w' : World} {v : Value} {xs : List ByteArray} {g : Nat} {t : TypeId} {cs : Array Value} (h : Rl w v xs) (hb : Blk w g t cs) (hno : ∀ (i : Nat) (x : ByteArray), cs[i]? ≠ some (.string x)) (k : Far (fun i => i = g) w w') : Rl w' v xs := by
  obtain ⟨A, c, rfl, hS, h3, h4⟩ := h
  refine ⟨A, c, rfl, ?_, h3, h4⟩
  rcases hS with h | ⟨b, o, rfl, h5, h6⟩
  · exact .inl h
  · rcases xs with _ | ⟨y, ys⟩
    · exact .inl rfl
    · have hne : b ≠ g := by
        intro e
        subst e
        have := h6 0 y rfl
        rw [hb.cell] at this
        exact hno _ _ this
      exact .inr ⟨b, o, rfl, Nat.lt_of_lt_of_le h5 k.size, fun j x hx => (World.cell?_of_block (w := w) (k.block b h5 hne)).trans (h6 j x hx)⟩
theorem held_keep {w w' : World} {H b k : Nat} {x y z : Value} (h : w.cell? ⟨H, 0, none⟩ = some x ∧ w.cell? ⟨H, 1, none⟩ = some y ∧ w.cell? ⟨b, k, none⟩ = some z) (hH : H < w.heap.size) (hb : b < w.heap.size) (k' : Below w.heap.size w w') :
    w'.cell? ⟨H, 0, none⟩ = some x ∧ w'.cell? ⟨H, 1, none⟩ = some y ∧ w'.cell? ⟨b, k, none⟩ = some z :=
  ⟨(k'.cell (p := ⟨H, 0, none⟩) hH).trans h.1, (k'.cell (p := ⟨H, 1, none⟩) hH).trans h.2.1, (k'.cell (p := ⟨b, k, none⟩) hb).trans h.2.2⟩
theorem held_set {w : World} {H b k q : Nat} {x y z : Value} (hH : H ≠ q) (hb : b ≠ q) (h : w.cell? ⟨H, 0, none⟩ = some x ∧ w.cell? ⟨H, 1, none⟩ = some y ∧ w.cell? ⟨b, k, none⟩ = some z) (u v : Value) :
    ((w.setCell ⟨q, 0, none⟩ u).setCell ⟨q, 1, none⟩ v).cell? ⟨H, 0, none⟩ = some x ∧ ((w.setCell ⟨q, 0, none⟩ u).setCell ⟨q, 1, none⟩ v).cell? ⟨H, 1, none⟩ = some y ∧ ((w.setCell ⟨q, 0, none⟩ u).setCell ⟨q, 1, none⟩ v).cell? ⟨b, k, none⟩ = some z := by
  have e : ∀ (g i : Nat), g ≠ q → ((w.setCell ⟨q, 0, none⟩ u).setCell ⟨q, 1, none⟩ v).cell? ⟨g, i, none⟩ = w.cell? ⟨g, i, none⟩ := fun g i hg => by
    rw [World.cell?_of_block (a := ⟨g, i, none⟩) (Below.heap_setCell _ ⟨q, 1, none⟩ v g hg), World.cell?_of_block (a := ⟨g, i, none⟩) (Below.heap_setCell _ ⟨q, 0, none⟩ u g hg)]
  rw [e _ _ hH, e _ _ hH, e _ _ hb]
  exact h
set_option maxHeartbeats 4000000 in
theorem rdouble_yes (R : Int) (v : Value) (xs : List ByteArray) (n : Nat) (x : ByteArray) (w : World) (hV : Rl w v xs) (hl : xs.length ≤ 1000) (hle : (xs.length : Int) ≤ R) (hx : xs[n]? = some x) :
    Calls Try.prog 55 #[.agg #[.int .i64 R, v], .int .i64 (n : Int)] w fun e w' => ∃ v', e = .returned (.tuple #[.agg #[.int .i64 R, v'], .bool (sendF R xs x).2]) ∧ Rz w v w' v' (sendF R xs x).1 ∧ Below w.heap.size w w' := by
  obtain ⟨A, c, rfl, hS, hm, hc⟩ := hV
  have hn : n < xs.length := (List.getElem?_eq_some_iff.1 hx).1
  obtain ⟨b, o, rfl, hbl, hcell⟩ := hS.at_ n hn
  have HV : Hid (Rl w (.slice (some ⟨b, o, none⟩) xs.length c) xs) := Lib.hid ⟨_, c, rfl, hS, hm, hc⟩
  have HC : Hid (w.cell? ⟨b, o + n, none⟩ = some (.string x)) := Lib.hid (by rw [hcell]; rw [List.getElem?_eq_getElem hn] at hx; rw [Option.some.inj hx])
  obtain ⟨k1, k2, k3, k4⟩ := boxes w R (.slice (some ⟨b, o, none⟩) xs.length c)
  have K1 := Lib.hid k1
  have K2 := Lib.hid k2
  have K3 := Lib.hid k3
  have K4 := Lib.hid k4
  clear k1 k2 k3 k4 hm hcell
  have hth : decide (0 ≤ (n : Int) ∧ (n : Int) < (xs.length : Int)) = true := decide_eq_true (by omega)
  have HT := Lib.hid hth
  clear hth
  have i1 : (n : Int) < (xs.length : Int) := by omega
  have i2 : (0 : Int) ≤ (n : Int) := by omega
  have HBL := Lib.hid hbl
  have HLE := Lib.hid hle
  clear hS hbl hx hn hc hle
  go_enter Try.func55, Try.ntmps55
  go_wp2_with fail
  refine (rthere_any R _ xs.length c (n : Int) _).mono ?_
  rintro e w1 ⟨rfl, hb⟩
  rw [HT.out]
  have b1 := K1.out.below hb
  have b2 := K2.out.below hb
  have b3 := K3.out.call hb
  have c0 := b1.cell 0
  have c1 := b1.cell 1
  simp only [List.getElem?_toArray, List.getElem?_cons_succ, List.getElem?_cons_zero] at c0 c1
  have x1 : w1.cell? ⟨b, o + n, none⟩ = some (.string x) := (b3.1.cell (p := ⟨b, o + n, none⟩) HBL.out).trans HC.out
  have B1 := Lib.hid b1
  have B2 := Lib.hid b2
  have B3 := Lib.hid b3
  clear b1 b2 b3 hb K1 K2 K3
  have hV1 : Hid (Rl w1.drew (.slice (some ⟨b, o, none⟩) xs.length c) xs) := Lib.hid (HV.out.below B3.out.drew.1)
  have SEND := Lib.hid (rsend_any R _ xs x w1.drew hV1.out hl HLE.out)
  have hS0 : Hid (w1.drew.cell? ⟨w.heap.size, 0, none⟩ = some (.int .i64 R) ∧ w1.drew.cell? ⟨w.heap.size, 1, none⟩ = some (.slice (some ⟨b, o, none⟩) xs.length c) ∧ w1.drew.cell? ⟨b, o + n, none⟩ = some (.string x)) := Lib.hid ⟨c0, c1, x1⟩
  have HBW : Hid (b < w1.heap.size) := Lib.hid (Nat.lt_of_lt_of_le HBL.out B3.out.2)
  have hbH : b < w.heap.size := HBL.out
  have hne : b ≠ w.heap.size + 1 := by omega
  go_wp2_with fail
  go_region_held3 (fun W => W.cell? ⟨w.heap.size, 0, none⟩ = some (.int .i64 R) ∧ W.cell? ⟨w.heap.size, 1, none⟩ = some (.slice (some ⟨b, o, none⟩) xs.length c) ∧ W.cell? ⟨b, o + n, none⟩ = some (.string x)) (first | exact hS0.out | exact hS2.out | exact hS3.out)
    (first
      | (go_at_call 53; refine SEND.out.mono ?_; rintro e w2 ⟨v2, rfl, ⟨hV2, hf2⟩, hb2⟩; have HF2 := Lib.hid (show Rz _ _ _ _ _ from ⟨hV2, hf2⟩); clear hf2; obtain ⟨A2, c2, hv2, hr2⟩ := hV2; have HV2 := Lib.hid (show Rl w2 v2 (sendF R xs x).1 from ⟨A2, c2, hv2, hr2⟩); have b2 := Blk.below (w := w1.drew) B2.out hb2; have HB2 := Lib.hid hb2; have d0 := b2.cell 0; have d1 := b2.cell 1; have g0 := b2.frozen 0; have g1 := b2.frozen 1; simp only [List.getElem?_toArray, List.getElem?_cons_succ, List.getElem?_cons_zero] at d0 d1; have hS2 := Lib.hid (held_keep hS0.out B1.out.lt HBW.out hb2); have hS3 := Lib.hid (held_set (q := w.heap.size + 1) (by omega) (by omega) hS2.out (.int .i64 R) v2); have BB := Lib.hid b2; obtain ⟨m2, hm2⟩ : ∃ m2, m2 = (sendF R xs x).1.length := ⟨_, rfl⟩; rw [← hm2] at hv2; subst hv2; clear b2 hb2 hr2 hm2))
  all_goals
    obtain ⟨v6, hv6⟩ : ∃ v6, v6 = Value.slice A2 m2 c2 := ⟨_, rfl⟩
    have e2 : Rl w2 v6 (sendF R xs x).1 := by rw [hv6]; exact HV2.out
    have HF6 : Hid (Rz w1.drew (.slice (some ⟨b, o, none⟩) xs.length c) w2 v6 (sendF R xs x).1) := Lib.hid (by rw [hv6]; exact HF2.out)
    have q0 : Blk ((w2.setCell ⟨w.heap.size + 1, 0, none⟩ (.int .i64 R)).setCell ⟨w.heap.size + 1, 1, none⟩ v6) (w.heap.size + 1) 59 #[.int .i64 R, v6] := by
      have := ((BB.out.set 0 (.int .i64 R)).set 1 v6)
      simpa using this
    have F : Far (fun i => i = w.heap.size + 1) w2 ((w2.setCell ⟨w.heap.size + 1, 0, none⟩ (.int .i64 R)).setCell ⟨w.heap.size + 1, 1, none⟩ v6) := ((Far.refl (fun i => i = w.heap.size + 1) w2).setCell (p := ⟨w.heap.size + 1, 0, none⟩) (fun _ => rfl) _).setCell (p := ⟨w.heap.size + 1, 1, none⟩) (fun _ => rfl) _
    have e3 := Rl.past e2 BB.out (by intro i y; rcases i with _ | _ | i <;> simp) F
    have bf := (Far.bl (B3.out.drew.call HB2.out) F (fun i hi => by omega)).1
    rw [← hv6]
    have e0 := q0.cell 0
    have e1 := q0.cell 1
    simp only [List.getElem?_toArray, List.getElem?_cons_succ, List.getElem?_cons_zero] at e0 e1
    have E0 := Lib.hid e0
    have E1 := Lib.hid e1
    have E3 := Lib.hid e3
    have BF := Lib.hid bf
    clear e0 e1 e2 e3 q0 F bf hv6
    go_wp2_with fail
    exact bodyPost_ret (results_mesh2 rfl _ _ _ rfl rfl E0.out E1.out) rfl ⟨_, rfl, Rz.later HF6.out B3.out.2 E3.out (by simp [World.setCell]), BF.out⟩
end Go.Proofs.Ytplahkhohhbgaaa

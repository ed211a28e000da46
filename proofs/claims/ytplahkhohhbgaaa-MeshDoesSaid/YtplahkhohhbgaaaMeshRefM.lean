/-
  The document's answer for mesh (guillocheref19): Move.
-/
import Derived.Test.YtplahkhohhbgaaaMeshRefT
import Derived.Test.YtplahkhohhbgaaaMeshRefD
namespace Go.Proofs.Ytplahkhohhbgaaa
open Go.RowKit Go.Proofs.Msh
set_option linter.unusedVariables false
set_option linter.unusedSimpArgs false
/-- xs[:t] -/
theorem part_high {w : World} {A : Option Addr} {c t : Nat} {xs : List ByteArray} (hS : Strs w A xs) (hn : A = none → c = 0) (hc : xs.length ≤ c) (ht : t ≤ xs.length) :
    ∃ A1, (∀ W : World, (Instr.slice 44 (.slice A xs.length c) none (some (.int .i64 (t : Int))) none).run Try.prog W = .ok (.slice A1 t c) W) ∧ ∀ W, Below w.heap.size w W → Sl W (.slice A1 t c) (xs.take t) := by
  refine ⟨if c = 0 then A else A.map (·.add (0 * 1)), fun W => ?_, fun W hW => ?_⟩
  · rw [run_slice_h W 44 A xs.length c elemStrs .i64 (t : Int) (by omega) (by omega), sizeStrs]
    simp only [Result.andThen, sliced, Int.toNat_natCast, Nat.sub_zero]
  · have hl : (xs.take t).length = t := by rw [List.length_take, Nat.min_eq_left ht]
    refine ⟨_, c, by rw [hl], ?_, fun h => ?_⟩
    · rcases hS with h | ⟨b, o, rfl, h2, h3⟩
      · subst h; rw [List.take_nil]; exact .nil _ _
      · rw [show (if c = 0 then (some ⟨b, o, none⟩ : Option Addr) else (some ⟨b, o, none⟩ : Option Addr).map (·.add (0 * 1))) = some ⟨b, o, none⟩ by split <;> simp [Addr.add]]
        exact (Strs.below (.inr ⟨b, o, rfl, h2, h3⟩) hW).take t
    · rcases A with _ | a
      · exact hn rfl
      · exfalso; revert h; split <;> simp
/-- xs[t:] -/
theorem part_low {w : World} {A : Option Addr} {c t : Nat} {xs : List ByteArray} (hS : Strs w A xs) (hn : A = none → c = 0) (hc : xs.length ≤ c) (ht : t ≤ xs.length) :
    ∃ A1, (∀ W : World, (Instr.slice 44 (.slice A xs.length c) (some (.int .i64 (t : Int))) none none).run Try.prog W = .ok (.slice A1 (xs.length - t) (c - t)) W) ∧ ∀ W, Below w.heap.size w W → Sl W (.slice A1 (xs.length - t) (c - t)) (xs.drop t) := by
  refine ⟨if c = t then A else A.map (·.add (t * 1)), fun W => ?_, fun W hW => ?_⟩
  · rw [run_slice_l W 44 A xs.length c elemStrs .i64 (t : Int) (by omega) (by omega), sizeStrs]
    simp only [Result.andThen, sliced, Int.toNat_natCast]
  · refine ⟨_, c - t, by rw [List.length_drop], ?_, fun h => ?_⟩
    · rcases hS with h | ⟨b, o, rfl, h2, h3⟩
      · subst h; rw [List.drop_nil]; exact .nil _ _
      · by_cases e : c = t
        · rw [List.drop_eq_nil_of_le (by omega)]; exact .nil _ _
        · rw [if_neg e]
          have := (Strs.below (.inr ⟨b, o, rfl, h2, h3⟩) hW).drop t
          simpa [Addr.add_mid] using this
    · rcases A with _ | a
      · rw [hn rfl]; simp
      · exfalso; revert h; split <;> simp
set_option maxHeartbeats 4000000 in
theorem rmove_no (R : Int) (v : Value) (xs : List ByteArray) (n to : Int) (w : World) (hV : Rl w v xs) (hl : xs.length ≤ 1000) (hn : decide (0 ≤ n ∧ n < (xs.length : Int)) = false ∨ (decide (0 ≤ n ∧ n < (xs.length : Int)) = true ∧ decide (0 ≤ to ∧ to < (xs.length : Int)) = false)) :
    Calls Try.prog 56 #[.agg #[.int .i64 R, v], .int .i64 n, .int .i64 to] w fun e w' => ∃ v', e = .returned (.tuple #[.agg #[.int .i64 R, v'], .bool false]) ∧ Rz w v w' v' xs ∧ Below w.heap.size w w' := by
  obtain ⟨A, c, rfl, hS, hm, hc⟩ := hV
  have HV : Hid (Rl w (.slice A xs.length c) xs) := Lib.hid ⟨A, c, rfl, hS, hm, hc⟩
  clear hS hm hc
  obtain ⟨k1, k2, k3, k4⟩ := boxes w R (.slice A xs.length c)
  have K1 := Lib.hid k1
  have K2 := Lib.hid k2
  have K3 := Lib.hid k3
  clear k1 k2 k3 k4
  have fin : ∀ w1 : World, Bl w.heap.size w w1 → Blk w1 (w.heap.size + 1) 59 #[.int .i64 0, .slice none 0 0] →
      ((w1.setCell ⟨w.heap.size + 1, 0, none⟩ (.int .i64 R)).setCell ⟨w.heap.size + 1, 1, none⟩ (.slice A xs.length c)).cell? ⟨w.heap.size + 1, 0, none⟩ = some (.int .i64 R) ∧
      ((w1.setCell ⟨w.heap.size + 1, 0, none⟩ (.int .i64 R)).setCell ⟨w.heap.size + 1, 1, none⟩ (.slice A xs.length c)).cell? ⟨w.heap.size + 1, 1, none⟩ = some (.slice A xs.length c) ∧
      Below w.heap.size w ((w1.setCell ⟨w.heap.size + 1, 0, none⟩ (.int .i64 R)).setCell ⟨w.heap.size + 1, 1, none⟩ (.slice A xs.length c)) := fun w1 B3 B2 => by
    have q0 : Blk ((w1.setCell ⟨w.heap.size + 1, 0, none⟩ (.int .i64 R)).setCell ⟨w.heap.size + 1, 1, none⟩ (.slice A xs.length c)) (w.heap.size + 1) 59 #[.int .i64 R, .slice A xs.length c] := by
      have := ((B2.set 0 (.int .i64 R)).set 1 (.slice A xs.length c))
      simpa using this
    exact ⟨by rw [q0.cell]; rfl, by rw [q0.cell]; rfl, ((B3.setCell (p := ⟨w.heap.size + 1, 0, none⟩) (by simp) (.int .i64 R)).setCell (p := ⟨w.heap.size + 1, 1, none⟩) (by simp) (.slice A xs.length c)).1⟩
  have FIN := Lib.hid fin
  clear fin
  rcases hn with hn | ⟨hn, ht⟩
  · have HT := Lib.hid hn
    clear hn
    go_enter Try.func56, Try.ntmps56
    go_wp2_with fail
    refine (rthere_any R A xs.length c n _).mono ?_
    rintro e w1 ⟨rfl, hb⟩
    rw [HT.out]
    have b1 := K1.out.below hb
    have b2 := K2.out.below hb
    have b3 := K3.out.call hb
    have c0 := b1.cell 0
    have c1 := b1.cell 1
    have d0 := b2.cell 0
    have d1 := b2.cell 1
    have g0 := b2.frozen 0
    have g1 := b2.frozen 1
    simp only [List.getElem?_toArray, List.getElem?_cons_succ, List.getElem?_cons_zero] at c0 c1 d0 d1
    have B2 := Lib.hid b2
    have B3 := Lib.hid b3
    clear b1 b2 b3 hb K1 K2 K3
    go_wp2_with fail
    obtain ⟨e0, e1, bf⟩ := FIN.out w1 B3.out B2.out
    exact bodyPost_ret (results_mesh2 rfl _ _ _ rfl rfl e0 e1) rfl ⟨_, rfl, Rz.same (HV.out.below bf), bf⟩
  · have HT := Lib.hid hn
    have HTO := Lib.hid ht
    clear hn ht
    go_enter Try.func56, Try.ntmps56
    go_wp2_with fail
    refine (rthere_any R A xs.length c n _).mono ?_
    rintro e w1 ⟨rfl, hb⟩
    rw [HT.out]
    have b1 := K1.out.below hb
    have b2 := K2.out.below hb
    have b3 := K3.out.call hb
    have c0 := b1.cell 0
    have c1 := b1.cell 1
    simp only [List.getElem?_toArray, List.getElem?_cons_succ, List.getElem?_cons_zero] at c0 c1
    have B1 := Lib.hid b1
    have B2 := Lib.hid b2
    have B3 := Lib.hid b3
    clear b1 b2 b3 hb K1 K2 K3
    go_wp2_with fail
    refine (rthere_any R A xs.length c to _).mono ?_
    rintro e w2 ⟨rfl, hb⟩
    rw [HTO.out]
    have b1 := B1.out.below hb
    have b2 := B2.out.below hb
    have b3 := B3.out.call hb
    clear c0 c1
    have c0 := b1.cell 0
    have c1 := b1.cell 1
    have d0 := b2.cell 0
    have d1 := b2.cell 1
    have g0 := b2.frozen 0
    have g1 := b2.frozen 1
    simp only [List.getElem?_toArray, List.getElem?_cons_succ, List.getElem?_cons_zero] at c0 c1 d0 d1
    have B2' := Lib.hid b2
    have B3' := Lib.hid b3
    clear b1 b2 b3 hb
    go_wp2_with fail
    obtain ⟨e0, e1, bf⟩ := FIN.out w2 B3'.out B2'.out
    exact bodyPost_ret (results_mesh2 rfl _ _ _ rfl rfl e0 e1) rfl ⟨_, rfl, Rz.same (HV.out.below bf), bf⟩
set_option maxHeartbeats 8000000 in
theorem rmove_yes (R : Int) (v : Value) (xs : List ByteArray) (n to : Nat) (x : ByteArray) (w : World) (hV : Rl w v xs) (hl : xs.length ≤ 1000) (hx : xs[n]? = some x) (ht : to < xs.length) :
    Calls Try.prog 56 #[.agg #[.int .i64 R, v], .int .i64 (n : Int), .int .i64 (to : Int)] w fun e w' => ∃ v', e = .returned (.tuple #[.agg #[.int .i64 R, v'], .bool true]) ∧ Rz w v w' v' (lay (xs.eraseIdx n) to x) ∧ Below w.heap.size w w' := by
  obtain ⟨A, c, rfl, hS, hm, hc⟩ := hV
  have hn : n < xs.length := (List.getElem?_eq_some_iff.1 hx).1
  have HV : Hid (Rl w (.slice A xs.length c) xs) := Lib.hid ⟨A, c, rfl, hS, hm, hc⟩
  clear hS hm hc
  obtain ⟨k1, k2, k3, k4⟩ := boxes w R (.slice A xs.length c)
  have K1 := Lib.hid k1
  have K2 := Lib.hid k2
  have K3 := Lib.hid k3
  clear k1 k2 k3 k4
  have HT : Hid (decide (0 ≤ (n : Int) ∧ (n : Int) < (xs.length : Int)) = true) := Lib.hid (decide_eq_true (by omega))
  have HTO : Hid (decide (0 ≤ (to : Int) ∧ (to : Int) < (xs.length : Int)) = true) := Lib.hid (decide_eq_true (by omega))
  obtain ⟨ys, hys⟩ : ∃ ys, ys = xs.eraseIdx n := ⟨_, rfl⟩
  have hyl : ys.length = xs.length - 1 := by rw [hys, List.length_eraseIdx_of_lt hn]
  have HX := Lib.hid hx
  have HYS := Lib.hid hys
  have hto : to ≤ ys.length := by omega
  have hyl2 : ys.length ≤ 1000 := by omega
  have HTL := Lib.hid hto
  have HYL := Lib.hid hyl2
  rw [← hys]
  clear hx hys hyl hto hyl2
  go_enter Try.func56, Try.ntmps56
  go_wp2_with fail
  refine (rthere_any R A xs.length c (n : Int) _).mono ?_
  rintro e w1 ⟨rfl, hb⟩
  rw [HT.out]
  have b1 := K1.out.below hb
  have b2 := K2.out.below hb
  have b3 := K3.out.call hb
  have c0 := b1.cell 0
  have c1 := b1.cell 1
  simp only [List.getElem?_toArray, List.getElem?_cons_succ, List.getElem?_cons_zero] at c0 c1
  have B1 := Lib.hid b1
  have B2 := Lib.hid b2
  have B3 := Lib.hid b3
  clear b1 b2 b3 hb K1 K2 K3
  go_wp2_with fail
  refine (rthere_any R A xs.length c (to : Int) _).mono ?_
  rintro e w2 ⟨rfl, hb⟩
  rw [HTO.out]
  have b1 := B1.out.below hb
  have b2 := B2.out.below hb
  have b3 := B3.out.call hb
  clear c0 c1 B1 B2 B3
  have c0 := b1.cell 0
  have c1 := b1.cell 1
  simp only [List.getElem?_toArray, List.getElem?_cons_succ, List.getElem?_cons_zero] at c0 c1
  have B1 := Lib.hid b1
  have B2 := Lib.hid b2
  have B3 := Lib.hid b3
  clear b1 b2 b3 hb
  go_wp2_with fail
  refine (rtake_yes R _ xs n x w2 (HV.out.below B3.out.1) hl HX.out).mono ?_
  rintro e w3 ⟨v3, rfl, ⟨hR3, _⟩, hb⟩
  rw [← HYS.out] at hR3
  obtain ⟨A3, cc, rfl, s3, z3, l3⟩ := hR3
  have b1 := B1.out.below hb
  have b2 := B2.out.below hb
  have b3 := B3.out.call hb
  clear c0 c1 B1 B2 B3
  obtain ⟨G, hG⟩ : ∃ G, G = w3.heap.size := ⟨_, rfl⟩
  have hb1 := b1.lt
  have hb2 := b2.lt
  have bG := Blk.new w3 59 #[.int .i64 R, .slice A3 ys.length cc]
  have bel : Below w3.heap.size w3 (w3.alloc (.cells #[.int .i64 R, .slice A3 ys.length cc] 59)) := (Below.refl _ _).alloc (Nat.le_refl _) _
  have n1 := Lib.hid (b1.below bel)
  have n2 := Lib.hid (b2.below bel)
  have n3 := Lib.hid (b3.call bel)
  have n4 : Hid (Strs (w3.alloc (.cells #[.int .i64 R, .slice A3 ys.length cc] 59)) A3 ys) := Lib.hid (s3.below bel)
  have n5 := Lib.hid bG
  have Z3 := Lib.hid z3
  have L3 := Lib.hid l3
  have HB12 : Hid (w.heap.size + 1 < G) := Lib.hid (by rw [hG]; exact hb2)
  have c00 := b1.cell 0
  have c01 := b1.cell 1
  clear b1 b2 b3 hb1 hb2 bG bel hb s3 z3 l3
  go_wp2_with fail
  rw [← hG] at *
  generalize w3.alloc (.cells #[.int .i64 R, .slice A3 ys.length cc] 59) = w4 at *
  obtain ⟨A4, s4, p4⟩ := part_high n4.out Z3.out L3.out HTL.out
  obtain ⟨A5, s5, p5⟩ := part_low n4.out Z3.out L3.out HTL.out
  have P4 := Lib.hid p4
  have P5 := Lib.hid p5
  have hGs : G ≠ w.heap.size := by have := HB12.out; omega
  have KS : Hid (∀ W : World, Bl w4.heap.size w4 W → W.cell? ⟨G, 1, none⟩ = some (.slice A3 ys.length cc)) := Lib.hid (fun W hW => by rw [(n5.out.below hW.1).cell]; rfl)
  have L1 : Hid (World.ownsRow ((w4.alloc (.cells #[] 9)).drew) w4.heap.size 9 1 (.slice (some ⟨w4.heap.size, 0, none⟩) 0 0) ([] : List ByteArray).length (([] : List ByteArray).map Value.string)) := Lib.hid (lit_row' w4.drew w4.heap.size rfl)
  have L2 : Hid (World.ownsRow (((w4.alloc (.cells #[] 9)).alloc (.cells #[.string x] 9)).drew) w4.heap.size 9 1 (.slice (some ⟨w4.heap.size, 0, none⟩) 0 0) ([] : List ByteArray).length (([] : List ByteArray).map Value.string)) := Lib.hid (World.ownsRow.alloc L1.out (.cells #[.string x] 9))
  have L3' : Hid (World.ownsRow (((w4.alloc (.cells #[.string x] 9)).alloc (.cells #[] 9)).drew) w4.heap.size 9 1 (.slice (some ⟨w4.heap.size + 1, 0, none⟩) 0 0) ([] : List ByteArray).length (([] : List ByteArray).map Value.string)) := Lib.hid ⟨rfl, .inr ⟨w4.heap.size + 1, 0, #[], rfl, Nat.le_succ _, (by show ((w4.heap.push _).push _)[w4.heap.size + 1]? = some _; rw [show w4.heap.size + 1 = (w4.heap.push (Obj.cells #[.string x] 9)).size by simp]; exact Array.getElem?_push_size), Nat.le_refl _, by simp [maxLen], rfl, rfl⟩⟩
  have E1 : Hid (Bl w4.heap.size w4 ((w4.alloc (.cells #[] 9)).drew)) := Lib.hid (((Bl.start w4).alloc _).drew)
  have E2 : Hid (Bl w4.heap.size w4 (((w4.alloc (.cells #[] 9)).alloc (.cells #[.string x] 9)).drew)) := Lib.hid ((((Bl.start w4).alloc _).alloc _).drew)
  have E3 : Hid (Bl w4.heap.size w4 (((w4.alloc (.cells #[.string x] 9)).alloc (.cells #[] 9)).drew)) := Lib.hid ((((Bl.start w4).alloc _).alloc _).drew)
  have E4 : Hid (Bl w4.heap.size w4 ((w4.alloc (.cells #[.string x] 9)).drew)) := Lib.hid (((Bl.start w4).alloc _).drew)
  have E0 : Hid (Bl w4.heap.size w4 w4.drew) := Lib.hid ((Bl.start w4).drew)
  have SX2 : Hid (Sl (((w4.alloc (.cells #[] 9)).alloc (.cells #[.string x] 9)).drew) (.slice (some ⟨w4.heap.size + 1, 0, none⟩) 1 1) [x]) := Lib.hid (by
    have := one_lit (w4.alloc (.cells #[] 9)) x
    rw [show (w4.alloc (.cells #[] 9)).heap.size = w4.heap.size + 1 by simp] at this
    exact this)
  have SX3 : Hid (Sl (((w4.alloc (.cells #[.string x] 9)).alloc (.cells #[] 9)).drew) (.slice (some ⟨w4.heap.size, 0, none⟩) 1 1) [x]) := Lib.hid (Sl.below (w := w4.alloc (.cells #[.string x] 9)) (one_lit w4 x) (((Below.refl _ _).alloc (Nat.le_refl _) _).drew))
  have N1 : Hid (([] : List ByteArray).length + (ys.take to).length ≤ 1000000) := Lib.hid (by simp; have := HYL.out; omega)
  have N2 : Hid ((ys.take to).length + [x].length ≤ 1000000) := Lib.hid (by simp; have := HYL.out; omega)
  have N3 : Hid ((ys.take to ++ [x]).length + (ys.drop to).length ≤ 1000000) := Lib.hid (by simp; have := HYL.out; omega)
  have hne1 : (Value.slice (some ⟨w4.heap.size + 1, 0, none⟩) 1 1).ownBlock ≠ (Value.slice (some ⟨w4.heap.size, 0, none⟩) 0 0).ownBlock := by simp [Value.ownBlock]
  have hne2 : (Value.slice (some ⟨w4.heap.size, 0, none⟩) 1 1).ownBlock ≠ (Value.slice (some ⟨w4.heap.size + 1, 0, none⟩) 0 0).ownBlock := by simp [Value.ownBlock]
  have HNE1 := Lib.hid hne1
  have HNE2 := Lib.hid hne2
  clear p4 p5 hne1 hne2
  go_region_held3 (fun W => W.cell? ⟨G, 1, none⟩ = some (.slice A3 ys.length cc)) (first | exact KS.out _ E0.out | exact KS.out _ E1.out | exact KS.out _ E2.out | exact KS.out _ E3.out | exact KS.out _ E4.out | exact KS.out _ C5.out | exact KS.out _ (Bl.alloc C5.out _) | exact KS.out _ C6.out | exact KS.out _ C7.out | exact C8.out)
    (first
      | (refine step_append_strs rfl (.tmp 29) (.tmp 33) rfl rfl w4.heap.size _ _ [] (ys.take to) rfl rfl L1.out (P4.out _ E1.out.1) N1.out E1.out.2 ?_; intro v5 w5 own5 gr5 _; rw [List.nil_append] at own5; have C5 := Lib.hid (E1.out.grownRow L1.out (Nat.le_refl _) gr5); have O5 := Lib.hid own5; clear own5 gr5)
      | (refine step_append_strs rfl (.tmp 29) (.tmp 33) rfl rfl w4.heap.size _ _ [] (ys.take to) rfl rfl L2.out (P4.out _ E2.out.1) N1.out E2.out.2 ?_; intro v5 w5 own5 gr5 _; rw [List.nil_append] at own5; have C5 := Lib.hid (E2.out.grownRow L2.out (Nat.le_refl _) gr5); have SX := Lib.hid (SX2.out.grown gr5 (.inr (.inl HNE1.out))); have O5 := Lib.hid own5; clear own5 gr5)
      | (refine step_append_strs rfl (.tmp 29) (.tmp 33) rfl rfl w4.heap.size _ _ [] (ys.take to) rfl rfl L3'.out (P4.out _ E3.out.1) N1.out E3.out.2 ?_; intro v5 w5 own5 gr5 _; rw [List.nil_append] at own5; have C5 := Lib.hid (E3.out.grownRow L3'.out (Nat.le_refl _) gr5); have SX := Lib.hid (SX3.out.grown gr5 (.inr (.inl HNE2.out))); have O5 := Lib.hid own5; clear own5 gr5)
      | (refine step_append_strs rfl (.tmp 34) (.tmp 36) rfl rfl w4.heap.size v5 _ (ys.take to) [x] rfl rfl O5.out SX.out N2.out C5.out.2 ?_; intro v6 w6 own6 gr6 _; have C6 := Lib.hid (C5.out.grownRow O5.out (Nat.le_refl _) gr6); have O6 := Lib.hid own6; clear own6 gr6)
      | (refine step_append_strs rfl (.tmp 34) (.tmp 36) rfl rfl w4.heap.size v5 _ (ys.take to) [x] rfl rfl (World.ownsRow.alloc O5.out _) (one_lit w5 x) N2.out (Bl.alloc C5.out _).2 ?_; intro v6 w6 own6 gr6 _; have C6 := Lib.hid ((Bl.alloc C5.out _).grownRow (World.ownsRow.alloc O5.out _) (Nat.le_refl _) gr6); have O6 := Lib.hid own6; clear own6 gr6)
      | (refine step_append_strs rfl (.tmp 37) (.tmp 41) rfl rfl w4.heap.size v6 _ (ys.take to ++ [x]) (ys.drop to) rfl rfl O6.out (P5.out _ C6.out.1) N3.out C6.out.2 ?_; intro v7 w7 own7 gr7 _; have c7 := C6.out.grownRow O6.out (Nat.le_refl _) gr7; have b4 := n1.out.below c7.1; have b5 := n2.out.below c7.1; have b6 := n3.out.call c7.1; have c0 := b4.cell 0; have c1 := b4.cell 1; have f1 := b4.frozen 1; have d0 := b5.cell 0; have d1 := b5.cell 1; have g0 := b5.frozen 0; have g1 := b5.frozen 1; simp only [List.getElem?_toArray, List.getElem?_cons_succ, List.getElem?_cons_zero] at c0 c1 d0 d1; have C7 := Lib.hid c7; have B4 := Lib.hid b4; have B5 := Lib.hid b5; have B6 := Lib.hid b6; have O7 := Lib.hid own7; obtain ⟨A7, k7, hv7, _⟩ := Rl.of_own own7; generalize (ys.take to ++ [x] ++ ys.drop to).length = m7 at hv7; subst hv7; have C8 : Hid ((w7.setCell ⟨w.heap.size, 1, none⟩ (.slice A7 m7 k7)).cell? ⟨G, 1, none⟩ = some (.slice A3 ys.length cc)) := Lib.hid ((World.cell?_of_block (a := ⟨G, 1, none⟩) (Below.heap_setCell _ ⟨w.heap.size, 1, none⟩ _ G hGs)).trans (KS.out _ C7.out)); clear own7 gr7 b4 b5 b6 c7))
  all_goals
    obtain ⟨e0, e1, e2, e3⟩ := box_end (xs := ys.take to ++ [x] ++ ys.drop to) R B4.out B5.out B6.out O7.out n2.out.lt
    rw [List.append_assoc, List.singleton_append] at e2
    have E0 := Lib.hid e0
    have E1 := Lib.hid e1
    have E2 := Lib.hid e2
    have E3 := Lib.hid e3
    clear e0 e1 e2 e3
    go_wp2_with fail
    exact bodyPost_ret (results_mesh2 rfl _ _ _ rfl rfl E0.out E1.out) rfl ⟨_, rfl, Rz.own E2.out O7.out (by have := n2.out.lt; omega) (by simp [World.setCell]), E3.out⟩
end Go.Proofs.Ytplahkhohhbgaaa

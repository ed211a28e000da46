/-
  The document's answer for mesh (guillocheref19): Take.
-/
import Derived.Test.YtplahkhohhbgaaaMeshRefS
namespace Go.Proofs.Ytplahkhohhbgaaa
open Go.RowKit Go.Proofs.Msh
set_option linter.unusedVariables false
set_option linter.unusedSimpArgs false
theorem box_end {w w6 : World} (R : Int) {v6 a c : Value} {cs : Array Value} {xs : List ByteArray} {base : Nat} (B4 : Blk w6 w.heap.size 59 cs) (B5 : Blk w6 (w.heap.size + 1) 59 #[a, c]) (B6 : Bl w.heap.size w w6)
    (O6 : w6.ownsRow base 9 1 v6 xs.length (xs.map Value.string)) (hb : w.heap.size + 1 < base) :
    (((w6.setCell ⟨w.heap.size, 1, none⟩ v6).setCell ⟨w.heap.size + 1, 0, none⟩ (.int .i64 R)).setCell ⟨w.heap.size + 1, 1, none⟩ v6).cell? ⟨w.heap.size + 1, 0, none⟩ = some (.int .i64 R) ∧
    (((w6.setCell ⟨w.heap.size, 1, none⟩ v6).setCell ⟨w.heap.size + 1, 0, none⟩ (.int .i64 R)).setCell ⟨w.heap.size + 1, 1, none⟩ v6).cell? ⟨w.heap.size + 1, 1, none⟩ = some v6 ∧
    Rl (((w6.setCell ⟨w.heap.size, 1, none⟩ v6).setCell ⟨w.heap.size + 1, 0, none⟩ (.int .i64 R)).setCell ⟨w.heap.size + 1, 1, none⟩ v6) v6 xs ∧
    Below w.heap.size w (((w6.setCell ⟨w.heap.size, 1, none⟩ v6).setCell ⟨w.heap.size + 1, 0, none⟩ (.int .i64 R)).setCell ⟨w.heap.size + 1, 1, none⟩ v6) := by
  obtain ⟨W7, hW7⟩ : ∃ W7, W7 = ((w6.setCell ⟨w.heap.size, 1, none⟩ v6).setCell ⟨w.heap.size + 1, 0, none⟩ (.int .i64 R)).setCell ⟨w.heap.size + 1, 1, none⟩ v6 := ⟨_, rfl⟩
  rw [← hW7]
  have q0 : Blk W7 (w.heap.size + 1) 59 #[.int .i64 R, v6] := by
    have := ((B5.other (p := ⟨w.heap.size, 1, none⟩) (by simp) v6).set 0 (.int .i64 R)).set 1 v6
    rw [hW7]
    simpa using this
  have F : Far (fun i => i = w.heap.size ∨ i = w.heap.size + 1) w6 W7 := by
    rw [hW7]
    exact (((Far.refl _ w6).setCell (p := ⟨w.heap.size, 1, none⟩) (fun _ => .inl rfl) _).setCell (p := ⟨w.heap.size + 1, 0, none⟩) (fun _ => .inr rfl) _).setCell (p := ⟨w.heap.size + 1, 1, none⟩) (fun _ => .inr rfl) _
  refine ⟨by rw [q0.cell]; rfl, by rw [q0.cell]; rfl, ?_, (Far.bl B6 F (fun i hi => by omega)).1⟩
  exact Rl.of_own (base := base) (own_far O6 F (fun i hi h => by have := (O6.lt i hi).1; omega))
theorem getAt_there {xs : List ByteArray} {n : Int} : (decide (0 ≤ n ∧ n < (xs.length : Int))) = (getAt xs n).isSome := by
  unfold getAt
  by_cases h : n < 0
  · rw [if_pos h, decide_eq_false (by omega)]; rfl
  · rw [if_neg h]
    by_cases h2 : n < (xs.length : Int)
    · rw [decide_eq_true (by omega), List.getElem?_eq_getElem (by omega)]; rfl
    · rw [decide_eq_false (by omega), List.getElem?_eq_none (by omega)]; rfl
set_option maxHeartbeats 4000000 in
theorem rtake_no (R : Int) (v : Value) (xs : List ByteArray) (n : Int) (w : World) (hV : Rl w v xs) (hl : xs.length ≤ 1000) (hn : getAt xs n = none) :
    Calls Try.prog 54 #[.agg #[.int .i64 R, v], .int .i64 n] w fun e w' => ∃ v', e = .returned (.tuple #[.agg #[.int .i64 R, v'], .string ⟨#[]⟩, .bool false]) ∧ Rz w v w' v' xs ∧ Below w.heap.size w w' := by
  obtain ⟨A, c, rfl, hS, hm, hc⟩ := hV
  have HV : Hid (Rl w (.slice A xs.length c) xs) := Lib.hid ⟨A, c, rfl, hS, hm, hc⟩
  clear hS hm hc
  obtain ⟨k1, k2, k3, k4⟩ := boxes w R (.slice A xs.length c)
  have K1 := Lib.hid k1
  have K2 := Lib.hid k2
  have K3 := Lib.hid k3
  clear k1 k2 k3 k4
  have hth : decide (0 ≤ n ∧ n < (xs.length : Int)) = false := by rw [getAt_there, hn]; rfl
  have HT := Lib.hid hth
  clear hth hn
  go_enter Try.func54, Try.ntmps54
  go_wp2_with fail
  refine (rthere_any R A xs.length c n _).mono ?_
  rintro e w1 ⟨rfl, hb⟩
  rw [HT.out]
  have b1 := K1.out.below hb
  have b2 := K2.out.below hb
  have b3 := K3.out.call hb
  have c0 := b1.cell 0
  have c1 := b1.cell 1
  have d0 := b2.cell 0
  have d1 := b2.cell 1
  have g0 := b2.frozen 0
  have g1 := b2.frozen 1
  simp only [List.getElem?_toArray, List.getElem?_cons_succ, List.getElem?_cons_zero] at c0 c1 d0 d1
  have hR : Rl w1 (.slice A xs.length c) xs := (HV.out.below K3.out.1).below hb
  have HR := Lib.hid hR
  have B2 := Lib.hid b2
  have B3 := Lib.hid b3
  clear b1 b2 b3 hR hb K1 K2 K3
  go_wp2_with fail
  have q0 : Blk ((w1.setCell ⟨w.heap.size + 1, 0, none⟩ (.int .i64 R)).setCell ⟨w.heap.size + 1, 1, none⟩ (.slice A xs.length c)) (w.heap.size + 1) 59 #[.int .i64 R, .slice A xs.length c] := by
    have := ((B2.out.set 0 (.int .i64 R)).set 1 (.slice A xs.length c))
    simpa using this
  have e0 := q0.cell 0
  have e1 := q0.cell 1
  simp only [List.getElem?_toArray, List.getElem?_cons_succ, List.getElem?_cons_zero] at e0 e1
  have bf := ((B3.out.setCell (p := ⟨w.heap.size + 1, 0, none⟩) (by simp) (.int .i64 R)).setCell (p := ⟨w.heap.size + 1, 1, none⟩) (by simp) (.slice A xs.length c)).1
  exact bodyPost_ret (results_mesh3 rfl _ _ _ rfl rfl rfl e0 e1) rfl ⟨_, rfl, Rz.same (HV.out.below bf), bf⟩
set_option maxHeartbeats 4000000 in
theorem rtake_yes (R : Int) (v : Value) (xs : List ByteArray) (n : Nat) (x : ByteArray) (w : World) (hV : Rl w v xs) (hl : xs.length ≤ 1000) (hx : xs[n]? = some x) :
    Calls Try.prog 54 #[.agg #[.int .i64 R, v], .int .i64 (n : Int)] w fun e w' => ∃ v', e = .returned (.tuple #[.agg #[.int .i64 R, v'], .string x, .bool true]) ∧ Rz w v w' v' (xs.eraseIdx n) ∧ Below w.heap.size w w' := by
  obtain ⟨A, c, rfl, hS, hm, hc⟩ := hV
  have hn : n < xs.length := (List.getElem?_eq_some_iff.1 hx).1
  obtain ⟨b, o, rfl, hbl, hcell⟩ := hS.at_ n hn
  have HV : Hid (Rl w (.slice (some ⟨b, o, none⟩) xs.length c) xs) := Lib.hid ⟨_, c, rfl, hS, hm, hc⟩
  have HC : Hid (w.cell? ⟨b, o + n, none⟩ = some (.string x)) := Lib.hid (by rw [hcell]; rw [List.getElem?_eq_getElem hn] at hx; rw [Option.some.inj hx])
  have HSS := Lib.hid hS
  obtain ⟨k1, k2, k3, k4⟩ := boxes w R (.slice (some ⟨b, o, none⟩) xs.length c)
  have K1 := Lib.hid k1
  have K2 := Lib.hid k2
  have K3 := Lib.hid k3
  clear k1 k2 k3 k4 hm hcell
  have hth : decide (0 ≤ (n : Int) ∧ (n : Int) < (xs.length : Int)) = true := decide_eq_true (by omega)
  have HT := Lib.hid hth
  clear hth
  have wk : IntKind.i64.wrap ((n : Int) + 1) = (n : Int) + 1 := IntWalk.i64_in _ (by omega)
  have i1 : (n : Int) < (xs.length : Int) := by omega
  have i2 : (0 : Int) ≤ (n : Int) := by omega
  have HBL := Lib.hid hbl
  have HX := Lib.hid hx
  have HCC := Lib.hid hc
  have HN := Lib.hid hn
  obtain ⟨A1, hA1⟩ : ∃ A', A' = (if c = n + 1 then (some ⟨b, o, none⟩ : Option Addr) else some ⟨b, o + (n + 1), none⟩) := ⟨_, rfl⟩
  have s1 : ∀ W : World, (Instr.slice 44 (.slice (some ⟨b, o, none⟩) xs.length c) (some (.int .i64 ((n : Int) + 1))) none none).run Try.prog W = .ok (.slice A1 (xs.length - (n + 1)) (c - (n + 1))) W := fun W => by
    have := slice_low b o xs.length c (n + 1) (by omega) W
    rw [← hA1] at this
    rw [← this]
    rfl
  have s2 : ∀ W : World, (Instr.slice 44 (.slice (some ⟨b, o, none⟩) xs.length c) none (some (.int .i64 (n : Int))) none).run Try.prog W = .ok (.slice (some ⟨b, o, none⟩) n c) W := fun W => slice_high b o xs.length c n (by omega) (by omega) W
  -- the two parts
  have p1 : ∀ W : World, Below w.heap.size w W → Sl W (.slice (some ⟨b, o, none⟩) n c) (xs.take n) := fun W hW => by
    have := (hS.below hW).take n
    refine ⟨_, c, ?_, this, fun h => by cases h⟩
    rw [List.length_take, Nat.min_eq_left (by omega)]
  have p2 : ∀ W : World, Below w.heap.size w W → Sl W (.slice A1 (xs.length - (n + 1)) (c - (n + 1))) (xs.drop (n + 1)) := fun W hW => by
    refine ⟨A1, c - (n + 1), by rw [List.length_drop], ?_, fun h => ?_⟩
    · rw [hA1]
      split
      · have : xs.length = n + 1 := by omega
        rw [List.drop_eq_nil_of_le (by omega)]
        exact .nil _ _
      · exact (hS.below hW).drop (n + 1)
    · rw [hA1] at h
      split at h <;> cases h
  have P1 := Lib.hid p1
  have P2 := Lib.hid p2
  have n1 : ([] : List ByteArray).length + (xs.take n).length ≤ 1000000 := by simp; omega
  have n3 : (xs.take n).length + (xs.drop (n + 1)).length ≤ 1000000 := by simp; omega
  have N1 := Lib.hid n1
  have N3 := Lib.hid n3
  clear hA1 p1 p2 n1 n3 hS hbl hx hn hc
  go_enter Try.func54, Try.ntmps54
  go_wp2_with fail
  refine (rthere_any R _ xs.length c (n : Int) _).mono ?_
  rintro e w1 ⟨rfl, hb⟩
  rw [HT.out]
  have b1 := K1.out.below hb
  have b2 := K2.out.below hb
  have b3 := K3.out.call hb
  have c0 := b1.cell 0
  have c1 := b1.cell 1
  have f1 := b1.frozen 1
  have d0 := b2.cell 0
  have d1 := b2.cell 1
  have g0 := b2.frozen 0
  have g1 := b2.frozen 1
  simp only [List.getElem?_toArray, List.getElem?_cons_succ, List.getElem?_cons_zero] at c0 c1 d0 d1
  have x1 : w1.cell? ⟨b, o + n, none⟩ = some (.string x) := (b3.1.cell (p := ⟨b, o + n, none⟩) HBL.out).trans HC.out
  have B1 := Lib.hid b1
  have B2 := Lib.hid b2
  have B3 := Lib.hid b3
  clear b1 b2 b3 hb K1 K2 K3
  go_wp2_with fail
  have L1 : Hid (((w1.alloc (.cells #[] 9)).drew).ownsRow w1.heap.size 9 1 (.slice (some ⟨w1.heap.size, 0, none⟩) 0 0) ([] : List ByteArray).length (([] : List ByteArray).map Value.string)) := Lib.hid (lit_row' w1.drew w1.heap.size rfl)
  have BA : Hid (Bl w.heap.size w ((w1.alloc (.cells #[] 9)).drew)) := Lib.hid ((B3.out.alloc _).drew)
  have hlt := B2.out.lt
  have N2 : Hid (w1.heap.size ≤ ((w1.alloc (.cells #[] 9)).drew).heap.size) := Lib.hid (by simp)
  have c1a : w1.drew.cell? ⟨w.heap.size, 1, none⟩ = some (.slice (some ⟨b, o, none⟩) xs.length c) := c1
  have c1b : (w1.alloc (.cells #[] 9)).cell? ⟨w.heap.size, 1, none⟩ = some (.slice (some ⟨b, o, none⟩) xs.length c) := by rw [Blk.cell (Blk.alloc (w := w1) B1.out _)]; rfl
  clear c0 c1 d0 d1 g0 g1 x1 f1
  go_region_law (first
    | (refine step_append_strs rfl (.tmp 18) (.tmp 22) rfl rfl w1.heap.size _ _ [] (xs.take n) rfl rfl L1.out (P1.out _ BA.out.1) N1.out N2.out ?_; intro v5 w5 own5 gr5 _; rw [List.nil_append] at own5; have b1 := (Blk.rowGrown (w := (w1.alloc (.cells #[] 9)).drew) (B1.out.alloc _) L1.out (by omega) gr5); have b2 := (Blk.rowGrown (w := (w1.alloc (.cells #[] 9)).drew) (B2.out.alloc _) L1.out hlt gr5); have b3 := BA.out.grownRow L1.out (by omega) gr5; have C1 := b1.cell 1; simp only [List.getElem?_toArray, List.getElem?_cons_succ, List.getElem?_cons_zero] at C1; have C5 := Lib.hid b1; have C6 := Lib.hid b2; have C7 := Lib.hid b3; have O5 := Lib.hid own5; have G5 := Lib.hid (show w1.heap.size ≤ w5.heap.size from Nat.le_trans N2.out gr5.size); clear own5 gr5 b1 b2 b3)
    | (refine step_append_strs rfl (.tmp 23) (.tmp 28) rfl rfl w1.heap.size v5 _ (xs.take n) (xs.drop (n + 1)) rfl rfl O5.out (P2.out _ C7.out.1) N3.out G5.out ?_; intro v6 w6 own6 gr6 _; have b4 := C5.out.rowGrown O5.out (by omega) gr6; have b5 := C6.out.rowGrown O5.out hlt gr6; have b6 := C7.out.grownRow O5.out (by omega) gr6; have c0 := b4.cell 0; have c1 := b4.cell 1; have f1 := b4.frozen 1; have d0 := b5.cell 0; have d1 := b5.cell 1; have g0 := b5.frozen 0; have g1 := b5.frozen 1; simp only [List.getElem?_toArray, List.getElem?_cons_succ, List.getElem?_cons_zero] at c0 c1 d0 d1; have B4 := Lib.hid b4; have B5 := Lib.hid b5; have B6 := Lib.hid b6; have O6 := Lib.hid own6; obtain ⟨A6, k6, hv6, _⟩ := Rl.of_own own6; generalize (xs.take n ++ xs.drop (n + 1)).length = m6 at hv6; subst hv6; clear own6 gr6 b4 b5 b6))
  all_goals
    go_wp2_with fail
    obtain ⟨e0, e1, e2, e3⟩ := box_end (xs := xs.take n ++ xs.drop (n + 1)) R B4.out B5.out B6.out O6.out hlt
    rw [← List.eraseIdx_eq_take_drop_succ] at e2
    exact bodyPost_ret (results_mesh3 rfl _ _ _ rfl rfl rfl e0 e1) rfl ⟨_, rfl, Rz.own e2 O6.out (by omega) (by simp [World.setCell]), e3⟩
end Go.Proofs.Ytplahkhohhbgaaa

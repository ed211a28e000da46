/-
  The document's answer for mesh (guillocheref19): Send.
-/
import Derived.Test.YtplahkhohhbgaaaMeshRef
import Derived.Handy
namespace Go.Proofs.Ytplahkhohhbgaaa
open Go.RowKit Go.Proofs.Msh
set_option linter.unusedVariables false
set_option linter.unusedSimpArgs false
theorem Blk.rowGrown {w w' : World} {g base : Nat} {t e : TypeId} {size n : Nat} {v : Value} {cs : Array Value} {xs : List Value} (h : Blk w g t cs) (hown : w.ownsRow base e size v n xs) (hg : g < base) (k : w.grownBy w' v.ownBlock) : Blk w' g t cs :=
  h.grown k (fun e => by have := (hown.lt g e).1; omega)
theorem lit_row' (W : World) (n : Nat) (h : W.heap.size = n) : (W.alloc (.cells #[] 9)).ownsRow n 9 1 (.slice (some ⟨n, 0, none⟩) 0 0) ([] : List ByteArray).length (([] : List ByteArray).map Value.string) := by
  subst h
  exact lit_row W
/-- The two boxes of a function of the document's answer. -/
theorem boxes (w : World) (R : Int) (v : Value) :
    let W := (w.alloc (.cells #[.int .i64 R, v] 59)).alloc (.cells #[.int .i64 0, .slice none 0 0] 59)
    Blk W w.heap.size 59 #[.int .i64 R, v] ∧ Blk W (w.heap.size + 1) 59 #[.int .i64 0, .slice none 0 0] ∧ Bl w.heap.size w W ∧ Below w.heap.size w W := by
  intro W
  have b : Bl w.heap.size w W := ((Bl.start w).alloc _).alloc _
  refine ⟨(Blk.new w _ _).alloc _, ?_, b, b.1⟩
  have := Blk.new (w.alloc (.cells #[.int .i64 R, v] 59)) 59 #[.int .i64 0, .slice none 0 0]
  simpa using this
set_option maxHeartbeats 2000000 in
theorem rsend_any (R : Int) (v : Value) (xs : List ByteArray) (s : ByteArray) (w : World) (hV : Rl w v xs) (hl : xs.length ≤ 1000) (hle : (xs.length : Int) ≤ R) :
    Calls Try.prog 53 #[.agg #[.int .i64 R, v], .string s] w fun e w' => ∃ v', e = .returned (.tuple #[.agg #[.int .i64 R, v'], .bool (sendF R xs s).2]) ∧ Rz w v w' v' (sendF R xs s).1 ∧ Below w.heap.size w w' := by
  obtain ⟨A, c, rfl, hS, hn, hc⟩ := hV
  have HV : Hid (Rl w (.slice A xs.length c) xs) := Lib.hid ⟨A, c, rfl, hS, hn, hc⟩
  clear hS hn hc
  unfold sendF
  obtain ⟨k1, k2, k3, k4⟩ := boxes w R (.slice A xs.length c)
  have K1 := Lib.hid k1
  have K2 := Lib.hid k2
  have K3 := Lib.hid k3
  clear k1 k2 k3 k4
  by_cases hr : (xs.length : Int) = R
  · rw [if_pos hr]
    have i1 : R ≤ (xs.length : Int) := by omega
    go_enter Try.func53, Try.ntmps53
    go_wp2_with fail
    go_returns
    exact ⟨_, rfl, Rz.same ((HV.out.below ((Below.refl _ w).alloc (Nat.le_refl _) _)).below ((Below.refl _ _).alloc (Nat.le_refl _) _)), ((Bl.start w).alloc _).alloc _ |>.1⟩
  · rw [if_neg hr]
    have i1 : ¬ R ≤ (xs.length : Int) := by omega
    have L1 := Lib.hid (lit_row' ((w.alloc (.cells #[.int .i64 R, .slice A xs.length c] 59)).alloc (.cells #[.int .i64 0, .slice none 0 0] 59)) (w.heap.size + 1 + 1) (by simp))
    have S1 := Lib.hid ((HV.out.sl.below K3.out.1).below ((Below.refl _ ((w.alloc (.cells #[.int .i64 R, .slice A xs.length c] 59)).alloc (.cells #[.int .i64 0, .slice none 0 0] 59))).alloc (Nat.le_refl _) (.cells #[] 9)))
    have n1 : ([] : List ByteArray).length + xs.length ≤ 1000000 := by simp; omega
    have n2 : w.heap.size + 1 + 1 ≤ (((w.alloc (.cells #[.int .i64 R, .slice A xs.length c] 59)).alloc (.cells #[.int .i64 0, .slice none 0 0] 59)).alloc (.cells #[] 9)).heap.size := by simp
    have n3 : xs.length + [s].length ≤ 1000000 := by simp; omega
    have N1 := Lib.hid n1
    have N2 := Lib.hid n2
    have N3 := Lib.hid n3
    have HR := Lib.hid hr
    clear hr n1 n2 n3
    go_enter Try.func53, Try.ntmps53
    go_wp2_with (first
      | (at_builtin; (refine wpList_append_strs rfl _ _ rfl rfl (w.heap.size + 1 + 1) _ _ [] xs rfl rfl L1.out S1.out N1.out N2.out ?_; intro v5 w5 own5 gr5 _; rw [List.nil_append] at own5; have b1 := (K1.out.alloc (.cells #[] 9)).rowGrown L1.out (by omega) gr5; have b2 := (K2.out.alloc (.cells #[] 9)).rowGrown L1.out (by omega) gr5; have b3 := (K3.out.alloc (.cells #[] 9)).grownRow L1.out (by omega) gr5; have B1 := Lib.hid b1; have B2 := Lib.hid b2; have B3 := Lib.hid b3; have O5 := Lib.hid own5; clear own5 gr5 b1 b2 b3))
      | (at_builtin; refine wpList_append_strs rfl _ _ rfl rfl (w.heap.size + 1 + 1) v5 _ xs [s] rfl rfl (World.ownsRow.alloc O5.out _) (one_lit _ s) N3.out (Nat.le_trans B2.out.lt (Below.size ((Below.refl _ w5).alloc (Nat.le_refl _) _))) ?_; intro v6 w6 own6 gr6 _; have b4 := (B1.out.alloc (.cells #[.string s] 9)).rowGrown (World.ownsRow.alloc O5.out _) (by omega) gr6; have b5 := (B2.out.alloc (.cells #[.string s] 9)).rowGrown (World.ownsRow.alloc O5.out _) (by omega) gr6; have b6 := (B3.out.alloc (.cells #[.string s] 9)).grownRow (World.ownsRow.alloc O5.out _) (by omega) gr6; have c0 := b4.cell 0; have c1 := b4.cell 1; have f1 := b4.frozen 1; have d0 := b5.cell 0; have d1 := b5.cell 1; have g0 := b5.frozen 0; have g1 := b5.frozen 1; simp only [List.getElem?_toArray, List.getElem?_cons_succ, List.getElem?_cons_zero] at c0 c1 d0 d1; have B4 := Lib.hid b4; have B5 := Lib.hid b5; have B6 := Lib.hid b6; have O6 := Lib.hid own6; obtain ⟨A6, k6, hv6, _⟩ := Rl.of_own own6; rw [List.length_append, List.length_singleton] at hv6; subst hv6; clear own6 gr6 b4 b5 b6))
    obtain ⟨v6, hv6⟩ : ∃ v6, v6 = Value.slice A6 (xs.length + 1) k6 := ⟨_, rfl⟩
    rw [← hv6]
    obtain ⟨W7, hW7⟩ : ∃ W7, W7 = ((w6.setCell ⟨w.heap.size, 1, none⟩ v6).setCell ⟨w.heap.size + 1, 0, none⟩ (.int .i64 R)).setCell ⟨w.heap.size + 1, 1, none⟩ v6 := ⟨_, rfl⟩
    rw [← hW7]
    have q0 : Blk W7 (w.heap.size + 1) 59 #[.int .i64 R, v6] := by
      have := ((B5.out.other (p := ⟨w.heap.size, 1, none⟩) (by simp) v6).set 0 (.int .i64 R)).set 1 v6
      rw [hW7]
      simpa using this
    have e0 : W7.cell? ⟨w.heap.size + 1, 0, none⟩ = some (.int .i64 R) := by rw [q0.cell]; rfl
    have e1 : W7.cell? ⟨w.heap.size + 1, 1, none⟩ = some v6 := by rw [q0.cell]; rfl
    have F : Far (fun i => i = w.heap.size ∨ i = w.heap.size + 1) w6 W7 := by
      rw [hW7]
      exact (((Far.refl _ w6).setCell (p := ⟨w.heap.size, 1, none⟩) (fun _ => .inl rfl) _).setCell (p := ⟨w.heap.size + 1, 0, none⟩) (fun _ => .inr rfl) _).setCell (p := ⟨w.heap.size + 1, 1, none⟩) (fun _ => .inr rfl) _
    have O7 : Hid (W7.ownsRow (w.heap.size + 1 + 1) 9 1 v6 (xs ++ [s]).length ((xs ++ [s]).map Value.string)) := Lib.hid (own_far (by rw [hv6]; exact O6.out) F (fun i hi h => by have := (O6.out.lt i (by rw [← hv6]; exact hi)).1; omega))
    have BF : Hid (Bl w.heap.size w W7) := Lib.hid (Far.bl B6.out F (fun i hi => by omega))
    clear hW7 F q0 hv6
    exact bodyPost_ret (results_mesh2 rfl _ _ _ rfl rfl e0 e1) rfl ⟨v6, rfl, Rz.own (Rl.of_own O7.out) O7.out (by omega) (Nat.le_refl _), BF.out.1⟩
end Go.Proofs.Ytplahkhohhbgaaa

import Derived.Test.YtgeonbkoihegnaaNibPack
namespace Go.Proofs.Ytgeonbkoihegnaa
open Go.RowKit
set_option maxHeartbeats 400000 in
/-- nibble.Key of a path. -/
theorem key_yes (s : ByteArray) (w : World) (hs : s.size ≤ 70368744177664) (he : s.size % 2 = 0) (hv : Nib.valid s.data.toList = true) :
    Calls Try.prog 9 #[.string s] w fun e w' => e = .returned (.tuple #[.string (Nib.bs (Nib.pack s.data.toList)), .bool true]) ∧ Below w.heap.size w w' := by
  have HV : Hid (Nib.valid s.data.toList = true) := hv
  have h1 : ((s.size : Int) % 2 != 0) = false := by simp; omega
  clear hv he
  go_enter Try.func9, Try.ntmps9
  go_wp2_with fail
  refine (valid_any s _ hs).mono ?_
  rintro e w' ⟨rfl, rfl⟩
  rw [HV.out]
  go_wp2_with fail
  refine (pack_any s _ hs HV.out).mono ?_
  rintro e w' ⟨rfl, hb⟩
  go_wp2_with fail
  go_ret2
  exact ⟨rfl, hb⟩
set_option maxHeartbeats 400000 in
/-- nibble.Key of what is no path. -/
theorem key_no (s : ByteArray) (w : World) (hs : s.size ≤ 70368744177664) (h : s.size % 2 ≠ 0 ∨ Nib.valid s.data.toList = false) :
    Calls Try.prog 9 #[.string s] w fun e w' => e = .returned (.tuple #[.string ⟨#[]⟩, .bool false]) ∧ Below w.heap.size w w' := by
  by_cases he : s.size % 2 = 0
  · have hv : Nib.valid s.data.toList = false := by rcases h with h | h; exact absurd he h; exact h
    have HV : Hid (Nib.valid s.data.toList = false) := hv
    have h1 : ((s.size : Int) % 2 != 0) = false := by simp; omega
    clear hv he h
    go_enter Try.func9, Try.ntmps9
    go_wp2_with fail
    refine (valid_any s _ hs).mono ?_
    rintro e w' ⟨rfl, rfl⟩
    rw [HV.out]
    go_wp2_with fail
    go_ret2
    exact ⟨rfl, Below.refl _ _⟩
  · have h1 : ((s.size : Int) % 2 != 0) = true := by simp; omega
    clear he h
    go_enter Try.func9, Try.ntmps9
    go_wp2_with fail
    go_ret2
    exact ⟨rfl, Below.refl _ _⟩
set_option maxHeartbeats 400000 in
theorem put_no (s : ByteArray) (leaf : Bool) (w : World) (hs : s.size ≤ 70368744177664) (hv : Nib.valid s.data.toList = false) :
    Calls Try.prog 17 #[.string s, .bool leaf] w fun e w' => e = .returned (.tuple #[.string ⟨#[]⟩, .bool false]) ∧ Below w.heap.size w w' := by
  have HV : Hid (Nib.valid s.data.toList = false) := hv
  clear hv
  go_enter Try.func17, Try.ntmps17
  go_wp2_with fail
  refine (valid_any s _ hs).mono ?_
  rintro e w' ⟨rfl, rfl⟩
  rw [HV.out]
  go_wp2_with fail
  go_ret2
  exact ⟨rfl, (Below.refl _ _).alloc (Nat.le_refl _) _⟩
theorem two_is (n : Nat) (h : ¬ n % 2 = 1) : ((n : Int) % 2 == 1) = false := by simp; omega
theorem one_is (n : Nat) (h : n % 2 = 1) : ((n : Int) % 2 == 1) = true := by simp; omega
set_option maxHeartbeats 400000 in
theorem front_any (s : ByteArray) (leaf : Bool) (a : Addr) (w : World) (hs : s.size ≤ 70368744177664) (hc : w.cell? a = some (.string s)) :
    Calls Try.prog 21 #[.bool leaf, .func (Fn.func 20) #[] #[.pointer (some a)]] w fun e w' => e = .returned (.string (Nib.bs (Nib.front s.size leaf))) ∧ Below w.heap.size w w' := by
  have g1 : ∀ W : World, (convert 31 9 (.slice (some ⟨W.heap.size, 0, none⟩) 1 1)).run Try.prog (W.alloc (.cells #[.int .u8 3] 5)) = .ok (.string (Nib.bs [3])) (W.alloc (.cells #[.int .u8 3] 5)) := fun W => conv_lit W [3]
  have g2 : ∀ W : World, (convert 31 9 (.slice (some ⟨W.heap.size, 0, none⟩) 1 1)).run Try.prog (W.alloc (.cells #[.int .u8 1] 5)) = .ok (.string (Nib.bs [1])) (W.alloc (.cells #[.int .u8 1] 5)) := fun W => conv_lit W [1]
  have g3 : ∀ W : World, (convert 31 9 (.slice (some ⟨W.heap.size, 0, none⟩) 2 2)).run Try.prog (W.alloc (.cells #[.int .u8 2, .int .u8 0] 5)) = .ok (.string (Nib.bs [2, 0])) (W.alloc (.cells #[.int .u8 2, .int .u8 0] 5)) := fun W => conv_lit W [2, 0]
  have g4 : ∀ W : World, (convert 31 9 (.slice (some ⟨W.heap.size, 0, none⟩) 2 2)).run Try.prog (W.alloc (.cells #[.int .u8 0, .int .u8 0] 5)) = .ok (.string (Nib.bs [0, 0])) (W.alloc (.cells #[.int .u8 0, .int .u8 0] 5)) := fun W => conv_lit W [0, 0]
  by_cases ho : s.size % 2 = 1
  · have h1 := one_is s.size ho
    have HO := Lib.hid ho
    clear ho
    cases leaf
    all_goals
      go_enter Try.func21, Try.ntmps21
      go_wp2
      go_ret
      exact ⟨by rw [Nib.front, if_pos HO.out]; rfl, (Below.refl _ _).alloc (Nat.le_refl _) _⟩
  · have h1 := two_is s.size ho
    have HO := Lib.hid ho
    clear ho
    cases leaf
    all_goals
      go_enter Try.func21, Try.ntmps21
      go_wp2
      go_ret
      exact ⟨by rw [Nib.front, if_neg HO.out]; rfl, (Below.refl _ _).alloc (Nat.le_refl _) _⟩
set_option maxHeartbeats 400000 in
theorem put_yes (s : ByteArray) (leaf : Bool) (w : World) (hs : s.size ≤ 35184372088832) (hv : Nib.valid s.data.toList = true) :
    Calls Try.prog 17 #[.string s, .bool leaf] w fun e w' => e = .returned (.tuple #[.string (Nib.bs (Nib.put s.data.toList leaf)), .bool true]) ∧ Below w.heap.size w w' := by
  have HV : Hid (Nib.valid s.data.toList = true) := hv
  clear hv
  go_enter Try.func17, Try.ntmps17
  go_wp2_with fail
  refine (valid_any s _ (by omega)).mono ?_
  rintro e w' ⟨rfl, rfl⟩
  rw [HV.out]
  go_wp2_with fail
  obtain ⟨W, hW⟩ : ∃ W, W = w.alloc (Obj.cells #[Value.string s] 9) := ⟨_, rfl⟩
  have hc : W.cell? ⟨w.heap.size, 0, none⟩ = some (.string s) := by rw [hW]; simp
  have hbl : Below w.heap.size w W := by rw [hW]; exact (Below.refl _ _).alloc (Nat.le_refl _) _
  have hlt : w.heap.size < W.heap.size := by rw [hW]; simp
  rw [← hW]
  clear hW
  have hsz : (Nib.bs (Nib.front s.size leaf) ++ s).size ≤ 70368744177664 := by
    rw [ByteArray.size_append, Nib.bs_size, Nib.front_length]
    split <;> omega
  have hvl : Nib.valid (Nib.bs (Nib.front s.size leaf) ++ s).data.toList = true := by
    rw [Nib.data_append, Nib.bs_data, Nib.valid_append, Nib.valid_front, HV.out]; rfl
  have HPK : Hid (Nib.pack ((Nib.bs (Nib.front s.size leaf)).data.toList ++ s.data.toList) = Nib.put s.data.toList leaf) := by
    have : Nib.pack ((Nib.bs (Nib.front s.size leaf)).data.toList ++ s.data.toList) = Nib.put s.data.toList leaf := by
      rw [Nib.bs_data, Nib.put, Nib.len_of]
    exact this
  have HSZ := Lib.hid hsz
  have HVL := Lib.hid hvl
  have HS : Hid (s.size ≤ 70368744177664) := by have : s.size ≤ 70368744177664 := by omega
                                                exact this
  have hfs : (Nib.bs (Nib.front s.size leaf)).size ≤ 2 := by
    rw [Nib.bs_size, Nib.front_length]
    split <;> omega
  clear hsz hvl
  go_region_with (first
    | (go_at_call 21; refine (front_any s leaf _ _ HS.out (by exact hc)).mono ?_; rintro e w1 ⟨rfl, hb1⟩; have hc1 := (hb1.cell (p := ⟨w.heap.size, 0, none⟩) hlt).trans hc)
    | (go_at_call 19; refine (pack_any _ _ HSZ.out HVL.out).mono ?_; rintro e w2 ⟨rfl, hb2⟩))
  all_goals go_wp2
  all_goals go_ret2
  all_goals
    have hs1 : w.heap.size ≤ w1.heap.size := Nat.le_trans (Nat.le_of_lt hlt) hb1.size
    exact ⟨congrArg (fun x => Ending.returned (.tuple #[.string (Nib.bs x), .bool true])) HPK.out, (hbl.drew.trans (hb1.mono (Nat.le_of_lt hlt))).trans (hb2.mono hs1)⟩
end Go.Proofs.Ytgeonbkoihegnaa

import Derived.Test.YtgeonbkoihegnaaNibGet
namespace Go.Proofs.Ytgeonbkoihegnaa
open Go.RowKit
theorem get_ex (w : World) : Calls Try.prog 18 #[.string (Nib.bs [49, 35])] w fun e w' => e = .returned (.tuple #[.string (Nib.bs [1, 2, 3]), .bool true, .bool true]) ∧ Below w.heap.size w w' := by
  refine (get_some (Nib.bs [49, 35]) w (by rw [Nib.bs_size]; simp) 3 1 [2, 3] (by rw [Nib.bs_data]; decide)).mono ?_
  rintro e w' ⟨rfl, hb⟩
  refine ⟨?_, hb⟩
  rw [Nib.bs_data, show Nib.get [49, 35] = some ([1, 2, 3], true) by decide]
  rfl
theorem put_ex (w : World) : Calls Try.prog 17 #[.string (Nib.bs [1, 2, 3]), .bool true] w fun e w' => e = .returned (.tuple #[.string (Nib.bs [49, 35]), .bool true]) ∧ Below w.heap.size w w' := by
  refine (put_yes (Nib.bs [1, 2, 3]) true w (by rw [Nib.bs_size]; simp) (by rw [Nib.bs_data]; decide)).mono ?_
  rintro e w' ⟨rfl, hb⟩
  refine ⟨?_, hb⟩
  rw [Nib.bs_data, show Nib.put [1, 2, 3] true = [49, 35] by decide]
theorem put_ex0 (w : World) : Calls Try.prog 17 #[.string ⟨#[]⟩, .bool false] w fun e w' => e = .returned (.tuple #[.string (Nib.bs [0]), .bool true]) ∧ Below w.heap.size w w' := by
  refine (put_yes (Nib.bs []) false w (by rw [Nib.bs_size]; simp) (by rw [Nib.bs_data]; decide)).mono ?_
  rintro e w' ⟨rfl, hb⟩
  refine ⟨?_, hb⟩
  rw [Nib.bs_data, show Nib.put [] false = [0] by decide]
theorem path_ex (w : World) : Calls Try.prog 11 #[.string ⟨#[97, 122]⟩] w fun e w' => e = .returned (.string (Nib.bs [6, 1, 7, 10])) ∧ Below w.heap.size w w' := by
  refine (path_any (Nib.bs [97, 122]) w (by rw [Nib.bs_size]; simp)).mono ?_
  rintro e w' ⟨rfl, hb⟩
  refine ⟨?_, hb⟩
  rw [Nib.bs_data, show Nib.path [97, 122] = [6, 1, 7, 10] by decide]
theorem key_ex (w : World) : Calls Try.prog 9 #[.string (Nib.bs [6, 1, 7, 10])] w fun e w' => e = .returned (.tuple #[.string ⟨#[97, 122]⟩, .bool true]) ∧ Below w.heap.size w w' := by
  refine (key_yes (Nib.bs [6, 1, 7, 10]) w (by rw [Nib.bs_size]; simp) (by rw [Nib.bs_size]; simp) (by rw [Nib.bs_data]; decide)).mono ?_
  rintro e w' ⟨rfl, hb⟩
  refine ⟨?_, hb⟩
  rw [Nib.bs_data, show Nib.pack [6, 1, 7, 10] = [97, 122] by decide]
  rfl
theorem key_ex0 (w : World) : Calls Try.prog 9 #[.string ⟨#[97]⟩] w fun e w' => e = .returned (.tuple #[.string ⟨#[]⟩, .bool false]) ∧ Below w.heap.size w w' :=
  key_no (Nib.bs [97]) w (by rw [Nib.bs_size]; simp) (.inl (by rw [Nib.bs_size]; simp))
theorem valid_ex (w : World) : Calls Try.prog 13 #[.string (Nib.bs [1, 2, 3])] w fun e w' => e = .returned (.bool true) ∧ w = w' := by
  refine (valid_any (Nib.bs [1, 2, 3]) w (by rw [Nib.bs_size]; simp)).mono ?_
  rintro e w' ⟨rfl, rfl⟩
  exact ⟨rfl, rfl⟩
theorem valid_ex0 (w : World) : Calls Try.prog 13 #[.string ⟨#[97]⟩] w fun e w' => e = .returned (.bool false) ∧ w = w' := by
  refine (valid_any (Nib.bs [97]) w (by rw [Nib.bs_size]; simp)).mono ?_
  rintro e w' ⟨rfl, rfl⟩
  exact ⟨rfl, rfl⟩
theorem common_ex (w : World) : Calls Try.prog 15 #[.string ⟨#[97, 98, 99]⟩, .string ⟨#[97, 98, 100]⟩] w fun e w' => e = .returned (.int .i64 2) ∧ Below w.heap.size w w' := by
  refine (common_any (Nib.bs [97, 98, 99]) (Nib.bs [97, 98, 100]) w (by rw [Nib.bs_size]; simp) (by rw [Nib.bs_size]; simp)).mono ?_
  rintro e w' ⟨rfl, hb⟩
  exact ⟨rfl, hb⟩
set_option maxHeartbeats 1000000 in
theorem works_any (w : World) : Calls Try.prog 8 #[] w fun e w' => e = .returned (.bool true) ∧ Below w.heap.size w w' := by
  have g1 : ∀ W : World, (convert 31 9 (.slice (some ⟨W.heap.size, 0, none⟩) 3 3)).run Try.prog (W.alloc (.cells #[.int .u8 1, .int .u8 2, .int .u8 3] 5)) = .ok (.string (Nib.bs [1, 2, 3])) (W.alloc (.cells #[.int .u8 1, .int .u8 2, .int .u8 3] 5)) := fun W => conv_lit W [1, 2, 3]
  have g2 : ∀ W : World, (convert 31 9 (.slice (some ⟨W.heap.size, 0, none⟩) 2 2)).run Try.prog (W.alloc (.cells #[.int .u8 49, .int .u8 35] 5)) = .ok (.string (Nib.bs [49, 35])) (W.alloc (.cells #[.int .u8 49, .int .u8 35] 5)) := fun W => conv_lit W [49, 35]
  have g3 : ∀ W : World, (convert 31 9 (.slice (some ⟨W.heap.size, 0, none⟩) 1 1)).run Try.prog (W.alloc (.cells #[.int .u8 0] 5)) = .ok (.string (Nib.bs [0])) (W.alloc (.cells #[.int .u8 0] 5)) := fun W => conv_lit W [0]
  have g4 : ∀ (W : World) (A : Obj), (convert 31 9 (.slice (some ⟨W.heap.size + 1, 0, none⟩) 1 1)).run Try.prog ((W.alloc A).alloc (.cells #[.int .u8 0] 5)) = .ok (.string (Nib.bs [0])) ((W.alloc A).alloc (.cells #[.int .u8 0] 5)) := fun W A => by
    have := conv_lit (W.alloc A) [0]
    rwa [show (W.alloc A).heap.size = W.heap.size + 1 by simp] at this
  have g5 : ∀ (W : World) (A B : Obj), (convert 31 9 (.slice (some ⟨W.heap.size + 1 + 1, 0, none⟩) 3 3)).run Try.prog (((W.alloc A).alloc B).alloc (.cells #[.int .u8 1, .int .u8 2, .int .u8 3] 5)) = .ok (.string (Nib.bs [1, 2, 3])) (((W.alloc A).alloc B).alloc (.cells #[.int .u8 1, .int .u8 2, .int .u8 3] 5)) := fun W A B => by
    have := conv_lit ((W.alloc A).alloc B) [1, 2, 3]
    rwa [show ((W.alloc A).alloc B).heap.size = W.heap.size + 1 + 1 by simp] at this
  go_enter Try.func8, Try.ntmps8
  go_wp2_with fail
  refine (put_ex _).mono ?_
  rintro e w1 ⟨rfl, hb1⟩
  go_wp2_with fail
  refine (put_ex0 _).mono ?_
  rintro e w2 ⟨rfl, hb2⟩
  go_wp2_with fail
  refine (get_ex _).mono ?_
  rintro e w3 ⟨rfl, hb3⟩
  go_wp2_with fail
  refine (path_ex _).mono ?_
  rintro e w4 ⟨rfl, hb4⟩
  go_wp2_with fail
  refine (key_ex _).mono ?_
  rintro e w5 ⟨rfl, hb5⟩
  go_wp2_with fail
  refine (key_ex0 _).mono ?_
  rintro e w6 ⟨rfl, hb6⟩
  go_wp2_with fail
  refine (valid_ex _).mono ?_
  rintro e w7 ⟨rfl, rfl⟩
  go_wp2_with fail
  refine (valid_ex0 _).mono ?_
  rintro e w8 ⟨rfl, rfl⟩
  go_wp2_with fail
  refine (common_ex _).mono ?_
  rintro e w9 ⟨rfl, hb9⟩
  go_wp2_with fail
  go_ret
  exact ⟨rfl, ((((((((((((Bl.start w).alloc _).call hb1).call hb2).call hb3).call hb4).call hb5).call hb6).alloc _).alloc _).alloc _).call hb9).1⟩
end Go.Proofs.Ytgeonbkoihegnaa

import Derived.Test.YtgeonbkoihegnaaNibWorks
namespace Go.Proofs.Ytgeonbkoihegnaa
open Go.RowKit
theorem joined (a b : ByteArray) : (Nib.bs (Nib.path a.data.toList) ++ Nib.bs (Nib.path b.data.toList)) = Nib.bs (Nib.path (a ++ b).data.toList) := by
  rw [Nib.data_append, Nib.path_append, Nib.bs_append]
theorem path_join (a b : ByteArray) (w : World) (ha : a.size ≤ 200) (hb : b.size ≤ 200) :
    Calls Try.prog 11 #[.string (a ++ b)] w fun e w' => e = .returned (.string (Nib.bs (Nib.path a.data.toList) ++ Nib.bs (Nib.path b.data.toList))) ∧ Below w.heap.size w w' := by
  rw [joined]
  exact path_any (a ++ b) w (by rw [ByteArray.size_append]; omega)
theorem key_path (a : ByteArray) (w : World) (ha : a.size ≤ 400) :
    Calls Try.prog 9 #[.string (Nib.bs (Nib.path a.data.toList))] w fun e w' => e = .returned (.tuple #[.string a, .bool true]) ∧ Below w.heap.size w w' := by
  refine (key_yes _ w (by rw [Nib.bs_size, Nib.path_length, Nib.len_of]; omega) (by rw [Nib.bs_size, Nib.path_length]; omega) (by rw [Nib.bs_data]; exact Nib.valid_path _)).mono ?_
  rintro e w' ⟨rfl, hb⟩
  refine ⟨?_, hb⟩
  rw [Nib.bs_data, Nib.pack_path, Nib.bs_of]
theorem key_join (a b : ByteArray) (w : World) (ha : a.size ≤ 200) (hb : b.size ≤ 200) :
    Calls Try.prog 9 #[.string (Nib.bs (Nib.path a.data.toList) ++ Nib.bs (Nib.path b.data.toList))] w fun e w' => e = .returned (.tuple #[.string (a ++ b), .bool true]) ∧ Below w.heap.size w w' := by
  rw [joined]
  exact key_path (a ++ b) w (by rw [ByteArray.size_append]; omega)
theorem common_join (a b : ByteArray) (w : World) (ha : a.size ≤ 200) (hb : b.size ≤ 200) :
    Calls Try.prog 15 #[.string (a ++ b), .string a] w fun e w' => e = .returned (.int .i64 (a.size : Int)) ∧ Below w.heap.size w w' := by
  refine (common_any (a ++ b) a w (by rw [ByteArray.size_append]; omega) (by omega)).mono ?_
  rintro e w' ⟨rfl, h⟩
  refine ⟨?_, h⟩
  rw [Nib.data_append, Nib.common_pre, Nib.len_of]
theorem common_same (a : ByteArray) (w : World) (ha : a.size ≤ 200) :
    Calls Try.prog 15 #[.string a, .string a] w fun e w' => e = .returned (.int .i64 (a.size : Int)) ∧ ∃ q, w' = w.drewN q := by
  refine (common_quiet a a w (by omega) (by omega)).mono ?_
  rintro e w' ⟨rfl, h⟩
  refine ⟨?_, h⟩
  rw [Nib.common_self, Nib.len_of]
theorem common_turn (a b : ByteArray) (n : Nat) (h : Nib.common b.data.toList a.data.toList = n) (w : World) (ha : a.size ≤ 200) (hb : b.size ≤ 200) :
    Calls Try.prog 15 #[.string b, .string a] w fun e w' => e = .returned (.int .i64 (n : Int)) ∧ ∃ q, w' = w.drewN q := by
  refine (common_quiet b a w (by omega) (by omega)).mono ?_
  rintro e w' ⟨rfl, h'⟩
  refine ⟨?_, h'⟩
  rw [h]
end Go.Proofs.Ytgeonbkoihegnaa

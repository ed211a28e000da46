/-
  Package frame: whether an ask may be (written by makers/frmval.py).
-/
import Derived.Test.YtlbebdkockejcaaGreatDoorGaFrB
import Derived.Test.YtlbebdkockejcaaGreatDoorFrmAsk
import Derived.Laws.StructEq
import Derived.Deep.Cut
import Derived.Deep.CutBlock
namespace Go.Proofs.YtlbebdkockejcaaGreatDoor
open Go.RowKit Go.Proofs.Frm
set_option linter.unusedVariables false
set_option linter.unusedSimpArgs false
set_option maxRecDepth 100000 in
set_option maxHeartbeats 2000000 in
theorem validAsk0 (s q t : Int) (k o : ByteArray) (l : Int) (w : World) :
    Calls Tryz.prog 16 #[.agg #[.int .i64 0, .int .i64 s, .int .i64 q, .int .i64 t, .string k, .string o, .int .i64 l]] w fun e w' => e = .returned (.bool (validA ⟨0, s, q, t, k, o, l⟩)) ∧ Below w.heap.size w w' := by
  have WI := Lib.hid (fun n a b W => within_any n a b W)
  have hk : k = ByteArray.empty ↔ k.toList = [] := by rw [← List.length_eq_zero_iff, Lib.toList_data, ← ByteArray.size_eq_zero_iff]; simp
  have ho : o = ByteArray.empty ↔ o.toList = [] := by rw [← List.length_eq_zero_iff, Lib.toList_data, ← ByteArray.size_eq_zero_iff]; simp
  have HK := Lib.hid hk
  have HO := Lib.hid ho
  clear hk ho
  have hw : wi 0 0 9 = true := by decide
  go_enter Tryz.func16, Tryz.ntmps16
  go_wp2_with (first
    | (go_at_call 38; refine (WI.out _ _ _ _).mono ?_; rintro e w1 ⟨rfl, rfl⟩))
  all_goals go_ret
  all_goals refine ⟨congrArg (fun b => Ending.returned (Value.bool b)) (?_ : (_ : Bool) = _), ((Below.refl _ _).alloc (Nat.le_refl _) _).alloc (by simp) _⟩
  all_goals (have hk := HK.out; have ho := HO.out; clear WI HK HO; simp [validA, *]; try first | omega | (simp [wi]; omega))
set_option maxRecDepth 100000 in
set_option maxHeartbeats 2000000 in
theorem validAsk1 (s q t : Int) (k o : ByteArray) (l : Int) (w : World) :
    Calls Tryz.prog 16 #[.agg #[.int .i64 1, .int .i64 s, .int .i64 q, .int .i64 t, .string k, .string o, .int .i64 l]] w fun e w' => e = .returned (.bool (validA ⟨1, s, q, t, k, o, l⟩)) ∧ Below w.heap.size w w' := by
  have WI := Lib.hid (fun n a b W => within_any n a b W)
  have hk : k = ByteArray.empty ↔ k.toList = [] := by rw [← List.length_eq_zero_iff, Lib.toList_data, ← ByteArray.size_eq_zero_iff]; simp
  have ho : o = ByteArray.empty ↔ o.toList = [] := by rw [← List.length_eq_zero_iff, Lib.toList_data, ← ByteArray.size_eq_zero_iff]; simp
  have HK := Lib.hid hk
  have HO := Lib.hid ho
  clear hk ho
  have hw : wi 1 0 9 = true := by decide
  go_enter Tryz.func16, Tryz.ntmps16
  go_wp2_with (first
    | (go_at_call 38; refine (WI.out _ _ _ _).mono ?_; rintro e w1 ⟨rfl, rfl⟩))
  all_goals go_ret
  all_goals refine ⟨congrArg (fun b => Ending.returned (Value.bool b)) (?_ : (_ : Bool) = _), ((Below.refl _ _).alloc (Nat.le_refl _) _).alloc (by simp) _⟩
  all_goals (have hk := HK.out; have ho := HO.out; clear WI HK HO; simp [validA, *]; try first | omega | (simp [wi]; omega))
set_option maxRecDepth 100000 in
set_option maxHeartbeats 2000000 in
theorem validAsk2 (s q t : Int) (k o : ByteArray) (l : Int) (w : World) :
    Calls Tryz.prog 16 #[.agg #[.int .i64 2, .int .i64 s, .int .i64 q, .int .i64 t, .string k, .string o, .int .i64 l]] w fun e w' => e = .returned (.bool (validA ⟨2, s, q, t, k, o, l⟩)) ∧ Below w.heap.size w w' := by
  have WI := Lib.hid (fun n a b W => within_any n a b W)
  have hk : k = ByteArray.empty ↔ k.toList = [] := by rw [← List.length_eq_zero_iff, Lib.toList_data, ← ByteArray.size_eq_zero_iff]; simp
  have ho : o = ByteArray.empty ↔ o.toList = [] := by rw [← List.length_eq_zero_iff, Lib.toList_data, ← ByteArray.size_eq_zero_iff]; simp
  have HK := Lib.hid hk
  have HO := Lib.hid ho
  clear hk ho
  have hw : wi 2 0 9 = true := by decide
  go_enter Tryz.func16, Tryz.ntmps16
  go_wp2_with (first
    | (go_at_call 38; refine (WI.out _ _ _ _).mono ?_; rintro e w1 ⟨rfl, rfl⟩))
  all_goals go_ret
  all_goals refine ⟨congrArg (fun b => Ending.returned (Value.bool b)) (?_ : (_ : Bool) = _), ((Below.refl _ _).alloc (Nat.le_refl _) _).alloc (by simp) _⟩
  all_goals (have hk := HK.out; have ho := HO.out; clear WI HK HO; simp [validA, *]; try first | omega | (simp [wi]; omega))
set_option maxRecDepth 100000 in
set_option maxHeartbeats 2000000 in
theorem validAsk3 (s q t : Int) (k o : ByteArray) (l : Int) (w : World) :
    Calls Tryz.prog 16 #[.agg #[.int .i64 3, .int .i64 s, .int .i64 q, .int .i64 t, .string k, .string o, .int .i64 l]] w fun e w' => e = .returned (.bool (validA ⟨3, s, q, t, k, o, l⟩)) ∧ Below w.heap.size w w' := by
  have WI := Lib.hid (fun n a b W => within_any n a b W)
  have hk : k = ByteArray.empty ↔ k.toList = [] := by rw [← List.length_eq_zero_iff, Lib.toList_data, ← ByteArray.size_eq_zero_iff]; simp
  have ho : o = ByteArray.empty ↔ o.toList = [] := by rw [← List.length_eq_zero_iff, Lib.toList_data, ← ByteArray.size_eq_zero_iff]; simp
  have HK := Lib.hid hk
  have HO := Lib.hid ho
  clear hk ho
  have hw : wi 3 0 9 = true := by decide
  go_enter Tryz.func16, Tryz.ntmps16
  go_wp2_with (first
    | (go_at_call 38; refine (WI.out _ _ _ _).mono ?_; rintro e w1 ⟨rfl, rfl⟩))
  all_goals go_ret
  all_goals refine ⟨congrArg (fun b => Ending.returned (Value.bool b)) (?_ : (_ : Bool) = _), ((Below.refl _ _).alloc (Nat.le_refl _) _).alloc (by simp) _⟩
  all_goals (have hk := HK.out; have ho := HO.out; clear WI HK HO; simp [validA, *]; try first | omega | (simp [wi]; omega))
set_option maxRecDepth 100000 in
set_option maxHeartbeats 2000000 in
theorem validAsk4 (s q t : Int) (k o : ByteArray) (l : Int) (w : World) :
    Calls Tryz.prog 16 #[.agg #[.int .i64 4, .int .i64 s, .int .i64 q, .int .i64 t, .string k, .string o, .int .i64 l]] w fun e w' => e = .returned (.bool (validA ⟨4, s, q, t, k, o, l⟩)) ∧ Below w.heap.size w w' := by
  have WI := Lib.hid (fun n a b W => within_any n a b W)
  have hk : k = ByteArray.empty ↔ k.toList = [] := by rw [← List.length_eq_zero_iff, Lib.toList_data, ← ByteArray.size_eq_zero_iff]; simp
  have ho : o = ByteArray.empty ↔ o.toList = [] := by rw [← List.length_eq_zero_iff, Lib.toList_data, ← ByteArray.size_eq_zero_iff]; simp
  have HK := Lib.hid hk
  have HO := Lib.hid ho
  clear hk ho
  have hw : wi 4 0 9 = true := by decide
  go_enter Tryz.func16, Tryz.ntmps16
  go_wp2_with (first
    | (go_at_call 38; refine (WI.out _ _ _ _).mono ?_; rintro e w1 ⟨rfl, rfl⟩))
  all_goals go_ret
  all_goals refine ⟨congrArg (fun b => Ending.returned (Value.bool b)) (?_ : (_ : Bool) = _), ((Below.refl _ _).alloc (Nat.le_refl _) _).alloc (by simp) _⟩
  all_goals (have hk := HK.out; have ho := HO.out; clear WI HK HO; simp [validA, *]; try first | omega | (simp [wi]; omega))
set_option maxRecDepth 100000 in
set_option maxHeartbeats 2000000 in
theorem validAsk5 (s q t : Int) (k o : ByteArray) (l : Int) (w : World) :
    Calls Tryz.prog 16 #[.agg #[.int .i64 5, .int .i64 s, .int .i64 q, .int .i64 t, .string k, .string o, .int .i64 l]] w fun e w' => e = .returned (.bool (validA ⟨5, s, q, t, k, o, l⟩)) ∧ Below w.heap.size w w' := by
  have WI := Lib.hid (fun n a b W => within_any n a b W)
  have hk : k = ByteArray.empty ↔ k.toList = [] := by rw [← List.length_eq_zero_iff, Lib.toList_data, ← ByteArray.size_eq_zero_iff]; simp
  have ho : o = ByteArray.empty ↔ o.toList = [] := by rw [← List.length_eq_zero_iff, Lib.toList_data, ← ByteArray.size_eq_zero_iff]; simp
  have HK := Lib.hid hk
  have HO := Lib.hid ho
  clear hk ho
  have hw : wi 5 0 9 = true := by decide
  go_enter Tryz.func16, Tryz.ntmps16
  go_wp2_with (first
    | (go_at_call 38; refine (WI.out _ _ _ _).mono ?_; rintro e w1 ⟨rfl, rfl⟩))
  all_goals go_ret
  all_goals refine ⟨congrArg (fun b => Ending.returned (Value.bool b)) (?_ : (_ : Bool) = _), ((Below.refl _ _).alloc (Nat.le_refl _) _).alloc (by simp) _⟩
  all_goals (have hk := HK.out; have ho := HO.out; clear WI HK HO; simp [validA, *]; try first | omega | (simp [wi]; omega))
set_option maxRecDepth 100000 in
set_option maxHeartbeats 2000000 in
theorem validAsk6 (s q t : Int) (k o : ByteArray) (l : Int) (w : World) :
    Calls Tryz.prog 16 #[.agg #[.int .i64 6, .int .i64 s, .int .i64 q, .int .i64 t, .string k, .string o, .int .i64 l]] w fun e w' => e = .returned (.bool (validA ⟨6, s, q, t, k, o, l⟩)) ∧ Below w.heap.size w w' := by
  have WI := Lib.hid (fun n a b W => within_any n a b W)
  have hk : k = ByteArray.empty ↔ k.toList = [] := by rw [← List.length_eq_zero_iff, Lib.toList_data, ← ByteArray.size_eq_zero_iff]; simp
  have ho : o = ByteArray.empty ↔ o.toList = [] := by rw [← List.length_eq_zero_iff, Lib.toList_data, ← ByteArray.size_eq_zero_iff]; simp
  have HK := Lib.hid hk
  have HO := Lib.hid ho
  clear hk ho
  have hw : wi 6 0 9 = true := by decide
  go_enter Tryz.func16, Tryz.ntmps16
  go_wp2_with (first
    | (go_at_call 38; refine (WI.out _ _ _ _).mono ?_; rintro e w1 ⟨rfl, rfl⟩))
  all_goals go_ret
  all_goals refine ⟨congrArg (fun b => Ending.returned (Value.bool b)) (?_ : (_ : Bool) = _), ((Below.refl _ _).alloc (Nat.le_refl _) _).alloc (by simp) _⟩
  all_goals (have hk := HK.out; have ho := HO.out; clear WI HK HO; simp [validA, *]; try first | omega | (simp [wi]; omega))
set_option maxRecDepth 100000 in
set_option maxHeartbeats 2000000 in
theorem validAsk7 (s q t : Int) (k o : ByteArray) (l : Int) (w : World) :
    Calls Tryz.prog 16 #[.agg #[.int .i64 7, .int .i64 s, .int .i64 q, .int .i64 t, .string k, .string o, .int .i64 l]] w fun e w' => e = .returned (.bool (validA ⟨7, s, q, t, k, o, l⟩)) ∧ Below w.heap.size w w' := by
  have WI := Lib.hid (fun n a b W => within_any n a b W)
  have hk : k = ByteArray.empty ↔ k.toList = [] := by rw [← List.length_eq_zero_iff, Lib.toList_data, ← ByteArray.size_eq_zero_iff]; simp
  have ho : o = ByteArray.empty ↔ o.toList = [] := by rw [← List.length_eq_zero_iff, Lib.toList_data, ← ByteArray.size_eq_zero_iff]; simp
  have HK := Lib.hid hk
  have HO := Lib.hid ho
  clear hk ho
  have hw : wi 7 0 9 = true := by decide
  go_enter Tryz.func16, Tryz.ntmps16
  go_wp2_with (first
    | (go_at_call 38; refine (WI.out _ _ _ _).mono ?_; rintro e w1 ⟨rfl, rfl⟩))
  all_goals go_ret
  all_goals refine ⟨congrArg (fun b => Ending.returned (Value.bool b)) (?_ : (_ : Bool) = _), ((Below.refl _ _).alloc (Nat.le_refl _) _).alloc (by simp) _⟩
  all_goals (have hk := HK.out; have ho := HO.out; clear WI HK HO; simp [validA, *]; try first | omega | (simp [wi]; omega))
set_option maxRecDepth 100000 in
set_option maxHeartbeats 2000000 in
theorem validAsk8 (s q t : Int) (k o : ByteArray) (l : Int) (w : World) :
    Calls Tryz.prog 16 #[.agg #[.int .i64 8, .int .i64 s, .int .i64 q, .int .i64 t, .string k, .string o, .int .i64 l]] w fun e w' => e = .returned (.bool (validA ⟨8, s, q, t, k, o, l⟩)) ∧ Below w.heap.size w w' := by
  have WI := Lib.hid (fun n a b W => within_any n a b W)
  have hk : k = ByteArray.empty ↔ k.toList = [] := by rw [← List.length_eq_zero_iff, Lib.toList_data, ← ByteArray.size_eq_zero_iff]; simp
  have ho : o = ByteArray.empty ↔ o.toList = [] := by rw [← List.length_eq_zero_iff, Lib.toList_data, ← ByteArray.size_eq_zero_iff]; simp
  have HK := Lib.hid hk
  have HO := Lib.hid ho
  clear hk ho
  have hw : wi 8 0 9 = true := by decide
  go_enter Tryz.func16, Tryz.ntmps16
  go_wp2_with (first
    | (go_at_call 38; refine (WI.out _ _ _ _).mono ?_; rintro e w1 ⟨rfl, rfl⟩))
  all_goals go_ret
  all_goals refine ⟨congrArg (fun b => Ending.returned (Value.bool b)) (?_ : (_ : Bool) = _), ((Below.refl _ _).alloc (Nat.le_refl _) _).alloc (by simp) _⟩
  all_goals (have hk := HK.out; have ho := HO.out; clear WI HK HO; simp [validA, *]; try first | omega | (simp [wi]; omega))
set_option maxRecDepth 100000 in
set_option maxHeartbeats 2000000 in
theorem validAsk9 (s q t : Int) (k o : ByteArray) (l : Int) (w : World) :
    Calls Tryz.prog 16 #[.agg #[.int .i64 9, .int .i64 s, .int .i64 q, .int .i64 t, .string k, .string o, .int .i64 l]] w fun e w' => e = .returned (.bool (validA ⟨9, s, q, t, k, o, l⟩)) ∧ Below w.heap.size w w' := by
  have WI := Lib.hid (fun n a b W => within_any n a b W)
  have hk : k = ByteArray.empty ↔ k.toList = [] := by rw [← List.length_eq_zero_iff, Lib.toList_data, ← ByteArray.size_eq_zero_iff]; simp
  have ho : o = ByteArray.empty ↔ o.toList = [] := by rw [← List.length_eq_zero_iff, Lib.toList_data, ← ByteArray.size_eq_zero_iff]; simp
  have HK := Lib.hid hk
  have HO := Lib.hid ho
  clear hk ho
  have hw : wi 9 0 9 = true := by decide
  go_enter Tryz.func16, Tryz.ntmps16
  go_wp2_with (first
    | (go_at_call 38; refine (WI.out _ _ _ _).mono ?_; rintro e w1 ⟨rfl, rfl⟩))
  all_goals go_ret
  all_goals refine ⟨congrArg (fun b => Ending.returned (Value.bool b)) (?_ : (_ : Bool) = _), ((Below.refl _ _).alloc (Nat.le_refl _) _).alloc (by simp) _⟩
  all_goals (have hk := HK.out; have ho := HO.out; clear WI HK HO; simp [validA, *]; try first | omega | (simp [wi]; omega))
set_option maxRecDepth 100000 in
set_option maxHeartbeats 2000000 in
theorem validAskN (n : Int) (hn : ¬ (0 ≤ n ∧ n ≤ 9)) (s q t : Int) (k o : ByteArray) (l : Int) (w : World) :
    Calls Tryz.prog 16 #[.agg #[.int .i64 n, .int .i64 s, .int .i64 q, .int .i64 t, .string k, .string o, .int .i64 l]] w fun e w' => e = .returned (.bool (validA ⟨n, s, q, t, k, o, l⟩)) ∧ Below w.heap.size w w' := by
  have WI := Lib.hid (fun n a b W => within_any n a b W)
  have hk : k = ByteArray.empty ↔ k.toList = [] := by rw [← List.length_eq_zero_iff, Lib.toList_data, ← ByteArray.size_eq_zero_iff]; simp
  have ho : o = ByteArray.empty ↔ o.toList = [] := by rw [← List.length_eq_zero_iff, Lib.toList_data, ← ByteArray.size_eq_zero_iff]; simp
  have HK := Lib.hid hk
  have HO := Lib.hid ho
  clear hk ho
  have h0 : ¬ n = 0 := by omega
  have h1 : ¬ n = 1 := by omega
  have h2 : ¬ n = 2 := by omega
  have h3 : ¬ n = 3 := by omega
  have h4 : ¬ n = 4 := by omega
  have h5 : ¬ n = 5 := by omega
  have h6 : ¬ n = 6 := by omega
  have h7 : ¬ n = 7 := by omega
  have h8 : ¬ n = 8 := by omega
  have h9 : ¬ n = 9 := by omega
  have hw : wi n 0 9 = false := by rw [Bool.eq_false_iff, Ne, wi_iff]; exact hn
  go_enter Tryz.func16, Tryz.ntmps16
  go_wp2_with (first
    | (go_at_call 38; refine (WI.out _ _ _ _).mono ?_; rintro e w1 ⟨rfl, rfl⟩))
  all_goals go_ret
  all_goals refine ⟨congrArg (fun b => Ending.returned (Value.bool b)) (?_ : (_ : Bool) = _), ((Below.refl _ _).alloc (Nat.le_refl _) _).alloc (by simp) _⟩
  all_goals (have hk := HK.out; have ho := HO.out; clear WI HK HO; simp [validA, *]; try first | omega | (simp [wi]; omega))
/-- ValidAsk. -/
theorem validAsk_any (a : Frm.Ask) (w : World) :
    Calls Tryz.prog 16 #[.agg (cellA a).toArray] w fun e w' => e = .returned (.bool (validA a)) ∧ Below w.heap.size w w' := by
  obtain ⟨n, s, q, t, k, o, l⟩ := a
  by_cases hn : 0 ≤ n ∧ n ≤ 9
  · have : n = 0 ∨ n = 1 ∨ n = 2 ∨ n = 3 ∨ n = 4 ∨ n = 5 ∨ n = 6 ∨ n = 7 ∨ n = 8 ∨ n = 9 := by omega
    rcases this with rfl | rfl | rfl | rfl | rfl | rfl | rfl | rfl | rfl | rfl
    · exact validAsk0 s q t k o l w
    · exact validAsk1 s q t k o l w
    · exact validAsk2 s q t k o l w
    · exact validAsk3 s q t k o l w
    · exact validAsk4 s q t k o l w
    · exact validAsk5 s q t k o l w
    · exact validAsk6 s q t k o l w
    · exact validAsk7 s q t k o l w
    · exact validAsk8 s q t k o l w
    · exact validAsk9 s q t k o l w
  · exact validAskN n hn s q t k o l w
end Go.Proofs.YtlbebdkockejcaaGreatDoor

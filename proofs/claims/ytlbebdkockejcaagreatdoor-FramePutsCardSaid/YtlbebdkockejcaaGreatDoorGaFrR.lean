/-
  Merged: FrmRf1, FrmRf2, FrmRf3, FrmRf4.
-/
import Derived.Test.YtlbebdkockejcaaGreatDoorFrmPlain
import Derived.Test.YtlbebdkockejcaaGreatDoorGaRlp
import Derived.Test.YtlbebdkockejcaaGreatDoorRefRlpT
import Derived.Test.YtlbebdkockejcaaGreatDoorGaFar
import Derived.Test.YtlbebdkockejcaaGreatDoorGaRun
import Derived.Test.YtlbebdkockejcaaGreatDoorFrmAsk
import Derived.Laws.StructEq
import Derived.Deep.Cut
import Derived.Deep.CutBlock
import Derived.Test.YtlbebdkockejcaaGreatDoorFrmRep
import Derived.Test.YtlbebdkockejcaaGreatDoorFrmNtc
import Derived.LoopIn
import Derived.Handy
import Derived.Test.YtlbebdkockejcaaGreatDoorGaFrB
import Derived.Test.YtlbebdkockejcaaGreatDoorWalkG
import Derived.Test.YtlbebdkockejcaaGreatDoorFrmPut
namespace Go.Proofs.YtlbebdkockejcaaGreatDoor
open Go.RowKit Go.Proofs.Frm
set_option linter.unusedVariables false
set_option linter.unusedSimpArgs false
set_option maxRecDepth 100000 in
set_option maxHeartbeats 1000000 in
/-- within. -/
theorem rwithin_any (n a b : Int) (w : World) :
    Calls Tryz.prog 36 #[.int .i64 n, .int .i64 a, .int .i64 b] w fun e w' => e = .returned (.bool (wi n a b)) ∧ w = w' := by
  unfold wi
  by_cases h1 : a ≤ n
  · have d1 : decide (a ≤ n) = true := decide_eq_true h1
    go_enter Tryz.func36, Tryz.ntmps36
    go_wp2_with fail
    go_ret
    refine ⟨?_, rfl⟩
    simp [h1]
  · have d1 : decide (a ≤ n) = false := decide_eq_false h1
    go_enter Tryz.func36, Tryz.ntmps36
    go_wp2_with fail
    go_ret
    refine ⟨?_, rfl⟩
    simp [h1]
set_option maxRecDepth 100000 in
set_option maxHeartbeats 1000000 in
/-- isRoot. -/
theorem rroot_any (s : ByteArray) (w : World) :
    Calls Tryz.prog 37 #[.string s] w fun e w' => e = .returned (.bool (rootOk s)) ∧ w = w' := by
  have hl : s.toList.length = s.size := by rw [Lib.toList_data]; simp
  unfold rootOk
  by_cases h0 : s.size = 0
  · have e0 : s.toList.isEmpty = true := by rw [List.isEmpty_iff, ← List.length_eq_zero_iff, hl, h0]
    have e1 : s.toList = [] := List.isEmpty_iff.1 e0
    go_enter Tryz.func37, Tryz.ntmps37
    go_wp2_with fail
    all_goals go_ret
    all_goals (refine ⟨?_, rfl⟩; simp [h0, e0, e1])
  · have e0 : s.toList.isEmpty = false := by rw [Bool.eq_false_iff, Ne, List.isEmpty_iff, ← List.length_eq_zero_iff, hl]; exact h0
    have e1 : ¬ s.toList = [] := fun e => by rw [e] at e0; cases e0
    go_enter Tryz.func37, Tryz.ntmps37
    go_wp2_with fail
    all_goals go_ret
    all_goals (refine ⟨?_, rfl⟩; simp [h0, e0, e1]; try (rw [Bool.eq_iff_iff]; simp; omega))
set_option maxRecDepth 100000 in
set_option maxHeartbeats 1000000 in
/-- Num. -/
theorem rnum_any (n : Nat) (w : World) (hn : n < 18446744073709551616) :
    Calls Tryz.prog 62 #[.int .u64 (n : Int)] w fun e w' => e = .returned (.string (Nib.bs (Rlp.num n))) ∧ Below w.heap.size w w' := by
  have HD := Lib.hid (fun W => rbytes_any n W hn)
  have HT := Lib.hid (fun W => rtext_any (Nib.bs (Rlp.digs n)) W (by rw [Nib.bs_size]; have := Rlp.digs_length n; omega))
  rw [show Nod.textB (Nib.bs (Rlp.digs n)) = Nib.bs (Rlp.num n) from rfl] at HT
  go_enter Tryz.func62, Tryz.ntmps62
  go_wp2_with (first
    | (go_at_call 82; refine (HD.out _).mono ?_; rintro e w1 ⟨rfl, hb⟩; have B1 := Lib.hid hb; clear hb)
    | (go_at_call 33; refine (HT.out _).mono ?_; rintro e w2 ⟨rfl, hb⟩; have B2 := Lib.hid hb; clear hb))
  go_ret
  exact ⟨rfl, B1.out.trans (B2.out.mono B1.out.size)⟩
set_option maxRecDepth 100000 in
set_option maxHeartbeats 1000000 in
/-- A number as an item. -/
theorem rnumz_any (n : Int) (w : World) (h0 : 0 ≤ n) (h1 : n ≤ 9223372036854775807) :
    Calls Tryz.prog 32 #[.int .i64 n] w fun e w' => e = .returned (.string (numZ n)) ∧ Below w.heap.size w w' := by
  obtain ⟨m, rfl⟩ := Int.eq_ofNat_of_zero_le h0
  have HN := Lib.hid (rnum_any m w (by omega))
  go_enter Tryz.func32, Tryz.ntmps32
  go_wp2_with (first
    | (go_at_call 62; refine HN.out.mono ?_; rintro e w1 ⟨rfl, hb⟩; have B1 := Lib.hid hb; clear hb))
  go_ret
  exact ⟨rfl, B1.out⟩
set_option maxRecDepth 100000 in
set_option maxHeartbeats 1000000 in
/-- A flag as an item. -/
theorem rbit_any (b : Bool) (w : World) :
    Calls Tryz.prog 35 #[.bool b] w fun e w' => e = .returned (.string (flagB b)) ∧ Below w.heap.size w w' := by
  have HN := Lib.hid (rnumz_any (if b then 1 else 0) w (by split <;> decide) (by split <;> decide))
  unfold flagB
  cases b <;>
  (go_enter Tryz.func35, Tryz.ntmps35
   go_wp2_with (first
    | (go_at_call 32; refine HN.out.mono ?_; rintro e w1 ⟨rfl, hb⟩; have B1 := Lib.hid hb; clear hb))
   go_ret
   exact ⟨rfl, B1.out⟩)
end Go.Proofs.YtlbebdkockejcaaGreatDoor
namespace Go.Proofs.YtlbebdkockejcaaGreatDoor
open Go.RowKit Go.Proofs.Frm
set_option linter.unusedVariables false
set_option linter.unusedSimpArgs false
set_option maxRecDepth 100000 in
set_option maxHeartbeats 2000000 in
theorem rvalidAsk0 (s q t : Int) (k o : ByteArray) (l : Int) (w : World) :
    Calls Tryz.prog 13 #[.agg #[.int .i64 0, .int .i64 s, .int .i64 q, .int .i64 t, .string k, .string o, .int .i64 l]] w fun e w' => e = .returned (.bool (validA ⟨0, s, q, t, k, o, l⟩)) ∧ Below w.heap.size w w' := by
  have WI := Lib.hid (fun n a b W => rwithin_any n a b W)
  have hk : k = ByteArray.empty ↔ k.toList = [] := by rw [← List.length_eq_zero_iff, Lib.toList_data, ← ByteArray.size_eq_zero_iff]; simp
  have ho : o = ByteArray.empty ↔ o.toList = [] := by rw [← List.length_eq_zero_iff, Lib.toList_data, ← ByteArray.size_eq_zero_iff]; simp
  have HK := Lib.hid hk
  have HO := Lib.hid ho
  clear hk ho
  have hw : wi 0 0 9 = true := by decide
  go_enter Tryz.func13, Tryz.ntmps13
  go_wp2_with (first
    | (go_at_call 36; refine (WI.out _ _ _ _).mono ?_; rintro e w1 ⟨rfl, rfl⟩))
  all_goals go_ret
  all_goals refine ⟨congrArg (fun b => Ending.returned (Value.bool b)) (?_ : (_ : Bool) = _), (Below.refl _ _).alloc (Nat.le_refl _) _⟩
  all_goals (have hk := HK.out; have ho := HO.out; clear WI HK HO; try simp only [Bool.not_eq_true', Bool.not_eq_false', bne_iff_ne, bne_eq_false_iff_eq, List.isEmpty_iff, List.isEmpty_eq_false_iff, ne_eq] at *; simp [validA, *]; try first | omega | (simp [wi]; omega) | (rw [Bool.eq_iff_iff]; simp; done) | (rw [Bool.eq_iff_iff]; simp; omega))
set_option maxRecDepth 100000 in
set_option maxHeartbeats 2000000 in
theorem rvalidAsk1 (s q t : Int) (k o : ByteArray) (l : Int) (w : World) :
    Calls Tryz.prog 13 #[.agg #[.int .i64 1, .int .i64 s, .int .i64 q, .int .i64 t, .string k, .string o, .int .i64 l]] w fun e w' => e = .returned (.bool (validA ⟨1, s, q, t, k, o, l⟩)) ∧ Below w.heap.size w w' := by
  have WI := Lib.hid (fun n a b W => rwithin_any n a b W)
  have hk : k = ByteArray.empty ↔ k.toList = [] := by rw [← List.length_eq_zero_iff, Lib.toList_data, ← ByteArray.size_eq_zero_iff]; simp
  have ho : o = ByteArray.empty ↔ o.toList = [] := by rw [← List.length_eq_zero_iff, Lib.toList_data, ← ByteArray.size_eq_zero_iff]; simp
  have HK := Lib.hid hk
  have HO := Lib.hid ho
  clear hk ho
  have hw : wi 1 0 9 = true := by decide
  go_enter Tryz.func13, Tryz.ntmps13
  go_wp2_with (first
    | (go_at_call 36; refine (WI.out _ _ _ _).mono ?_; rintro e w1 ⟨rfl, rfl⟩))
  all_goals go_ret
  all_goals refine ⟨congrArg (fun b => Ending.returned (Value.bool b)) (?_ : (_ : Bool) = _), (Below.refl _ _).alloc (Nat.le_refl _) _⟩
  all_goals (have hk := HK.out; have ho := HO.out; clear WI HK HO; try simp only [Bool.not_eq_true', Bool.not_eq_false', bne_iff_ne, bne_eq_false_iff_eq, List.isEmpty_iff, List.isEmpty_eq_false_iff, ne_eq] at *; simp [validA, *]; try first | omega | (simp [wi]; omega) | (rw [Bool.eq_iff_iff]; simp; done) | (rw [Bool.eq_iff_iff]; simp; omega))
set_option maxRecDepth 100000 in
set_option maxHeartbeats 2000000 in
theorem rvalidAsk2 (s q t : Int) (k o : ByteArray) (l : Int) (w : World) :
    Calls Tryz.prog 13 #[.agg #[.int .i64 2, .int .i64 s, .int .i64 q, .int .i64 t, .string k, .string o, .int .i64 l]] w fun e w' => e = .returned (.bool (validA ⟨2, s, q, t, k, o, l⟩)) ∧ Below w.heap.size w w' := by
  have WI := Lib.hid (fun n a b W => rwithin_any n a b W)
  have hk : k = ByteArray.empty ↔ k.toList = [] := by rw [← List.length_eq_zero_iff, Lib.toList_data, ← ByteArray.size_eq_zero_iff]; simp
  have ho : o = ByteArray.empty ↔ o.toList = [] := by rw [← List.length_eq_zero_iff, Lib.toList_data, ← ByteArray.size_eq_zero_iff]; simp
  have HK := Lib.hid hk
  have HO := Lib.hid ho
  clear hk ho
  have hw : wi 2 0 9 = true := by decide
  go_enter Tryz.func13, Tryz.ntmps13
  go_wp2_with (first
    | (go_at_call 36; refine (WI.out _ _ _ _).mono ?_; rintro e w1 ⟨rfl, rfl⟩))
  all_goals go_ret
  all_goals refine ⟨congrArg (fun b => Ending.returned (Value.bool b)) (?_ : (_ : Bool) = _), (Below.refl _ _).alloc (Nat.le_refl _) _⟩
  all_goals (have hk := HK.out; have ho := HO.out; clear WI HK HO; try simp only [Bool.not_eq_true', Bool.not_eq_false', bne_iff_ne, bne_eq_false_iff_eq, List.isEmpty_iff, List.isEmpty_eq_false_iff, ne_eq] at *; simp [validA, *]; try first | omega | (simp [wi]; omega) | (rw [Bool.eq_iff_iff]; simp; done) | (rw [Bool.eq_iff_iff]; simp; omega))
set_option maxRecDepth 100000 in
set_option maxHeartbeats 2000000 in
theorem rvalidAsk3 (s q t : Int) (k o : ByteArray) (l : Int) (w : World) :
    Calls Tryz.prog 13 #[.agg #[.int .i64 3, .int .i64 s, .int .i64 q, .int .i64 t, .string k, .string o, .int .i64 l]] w fun e w' => e = .returned (.bool (validA ⟨3, s, q, t, k, o, l⟩)) ∧ Below w.heap.size w w' := by
  have WI := Lib.hid (fun n a b W => rwithin_any n a b W)
  have hk : k = ByteArray.empty ↔ k.toList = [] := by rw [← List.length_eq_zero_iff, Lib.toList_data, ← ByteArray.size_eq_zero_iff]; simp
  have ho : o = ByteArray.empty ↔ o.toList = [] := by rw [← List.length_eq_zero_iff, Lib.toList_data, ← ByteArray.size_eq_zero_iff]; simp
  have HK := Lib.hid hk
  have HO := Lib.hid ho
  clear hk ho
  have hw : wi 3 0 9 = true := by decide
  go_enter Tryz.func13, Tryz.ntmps13
  go_wp2_with (first
    | (go_at_call 36; refine (WI.out _ _ _ _).mono ?_; rintro e w1 ⟨rfl, rfl⟩))
  all_goals go_ret
  all_goals refine ⟨congrArg (fun b => Ending.returned (Value.bool b)) (?_ : (_ : Bool) = _), (Below.refl _ _).alloc (Nat.le_refl _) _⟩
  all_goals (have hk := HK.out; have ho := HO.out; clear WI HK HO; try simp only [Bool.not_eq_true', Bool.not_eq_false', bne_iff_ne, bne_eq_false_iff_eq, List.isEmpty_iff, List.isEmpty_eq_false_iff, ne_eq] at *; simp [validA, *]; try first | omega | (simp [wi]; omega) | (rw [Bool.eq_iff_iff]; simp; done) | (rw [Bool.eq_iff_iff]; simp; omega))
set_option maxRecDepth 100000 in
set_option maxHeartbeats 2000000 in
theorem rvalidAsk4 (s q t : Int) (k o : ByteArray) (l : Int) (w : World) :
    Calls Tryz.prog 13 #[.agg #[.int .i64 4, .int .i64 s, .int .i64 q, .int .i64 t, .string k, .string o, .int .i64 l]] w fun e w' => e = .returned (.bool (validA ⟨4, s, q, t, k, o, l⟩)) ∧ Below w.heap.size w w' := by
  have WI := Lib.hid (fun n a b W => rwithin_any n a b W)
  have hk : k = ByteArray.empty ↔ k.toList = [] := by rw [← List.length_eq_zero_iff, Lib.toList_data, ← ByteArray.size_eq_zero_iff]; simp
  have ho : o = ByteArray.empty ↔ o.toList = [] := by rw [← List.length_eq_zero_iff, Lib.toList_data, ← ByteArray.size_eq_zero_iff]; simp
  have HK := Lib.hid hk
  have HO := Lib.hid ho
  clear hk ho
  have hw : wi 4 0 9 = true := by decide
  go_enter Tryz.func13, Tryz.ntmps13
  go_wp2_with (first
    | (go_at_call 36; refine (WI.out _ _ _ _).mono ?_; rintro e w1 ⟨rfl, rfl⟩))
  all_goals go_ret
  all_goals refine ⟨congrArg (fun b => Ending.returned (Value.bool b)) (?_ : (_ : Bool) = _), (Below.refl _ _).alloc (Nat.le_refl _) _⟩
  all_goals (have hk := HK.out; have ho := HO.out; clear WI HK HO; try simp only [Bool.not_eq_true', Bool.not_eq_false', bne_iff_ne, bne_eq_false_iff_eq, List.isEmpty_iff, List.isEmpty_eq_false_iff, ne_eq] at *; simp [validA, *]; try first | omega | (simp [wi]; omega) | (rw [Bool.eq_iff_iff]; simp; done) | (rw [Bool.eq_iff_iff]; simp; omega))
set_option maxRecDepth 100000 in
set_option maxHeartbeats 2000000 in
theorem rvalidAsk5 (s q t : Int) (k o : ByteArray) (l : Int) (w : World) :
    Calls Tryz.prog 13 #[.agg #[.int .i64 5, .int .i64 s, .int .i64 q, .int .i64 t, .string k, .string o, .int .i64 l]] w fun e w' => e = .returned (.bool (validA ⟨5, s, q, t, k, o, l⟩)) ∧ Below w.heap.size w w' := by
  have WI := Lib.hid (fun n a b W => rwithin_any n a b W)
  have hk : k = ByteArray.empty ↔ k.toList = [] := by rw [← List.length_eq_zero_iff, Lib.toList_data, ← ByteArray.size_eq_zero_iff]; simp
  have ho : o = ByteArray.empty ↔ o.toList = [] := by rw [← List.length_eq_zero_iff, Lib.toList_data, ← ByteArray.size_eq_zero_iff]; simp
  have HK := Lib.hid hk
  have HO := Lib.hid ho
  clear hk ho
  have hw : wi 5 0 9 = true := by decide
  go_enter Tryz.func13, Tryz.ntmps13
  go_wp2_with (first
    | (go_at_call 36; refine (WI.out _ _ _ _).mono ?_; rintro e w1 ⟨rfl, rfl⟩))
  all_goals go_ret
  all_goals refine ⟨congrArg (fun b => Ending.returned (Value.bool b)) (?_ : (_ : Bool) = _), (Below.refl _ _).alloc (Nat.le_refl _) _⟩
  all_goals (have hk := HK.out; have ho := HO.out; clear WI HK HO; try simp only [Bool.not_eq_true', Bool.not_eq_false', bne_iff_ne, bne_eq_false_iff_eq, List.isEmpty_iff, List.isEmpty_eq_false_iff, ne_eq] at *; simp [validA, *]; try first | omega | (simp [wi]; omega) | (rw [Bool.eq_iff_iff]; simp; done) | (rw [Bool.eq_iff_iff]; simp; omega))
set_option maxRecDepth 100000 in
set_option maxHeartbeats 2000000 in
theorem rvalidAsk6 (s q t : Int) (k o : ByteArray) (l : Int) (w : World) :
    Calls Tryz.prog 13 #[.agg #[.int .i64 6, .int .i64 s, .int .i64 q, .int .i64 t, .string k, .string o, .int .i64 l]] w fun e w' => e = .returned (.bool (validA ⟨6, s, q, t, k, o, l⟩)) ∧ Below w.heap.size w w' := by
  have WI := Lib.hid (fun n a b W => rwithin_any n a b W)
  have hk : k = ByteArray.empty ↔ k.toList = [] := by rw [← List.length_eq_zero_iff, Lib.toList_data, ← ByteArray.size_eq_zero_iff]; simp
  have ho : o = ByteArray.empty ↔ o.toList = [] := by rw [← List.length_eq_zero_iff, Lib.toList_data, ← ByteArray.size_eq_zero_iff]; simp
  have HK := Lib.hid hk
  have HO := Lib.hid ho
  clear hk ho
  have hw : wi 6 0 9 = true := by decide
  go_enter Tryz.func13, Tryz.ntmps13
  go_wp2_with (first
    | (go_at_call 36; refine (WI.out _ _ _ _).mono ?_; rintro e w1 ⟨rfl, rfl⟩))
  all_goals go_ret
  all_goals refine ⟨congrArg (fun b => Ending.returned (Value.bool b)) (?_ : (_ : Bool) = _), (Below.refl _ _).alloc (Nat.le_refl _) _⟩
  all_goals (have hk := HK.out; have ho := HO.out; clear WI HK HO; try simp only [Bool.not_eq_true', Bool.not_eq_false', bne_iff_ne, bne_eq_false_iff_eq, List.isEmpty_iff, List.isEmpty_eq_false_iff, ne_eq] at *; simp [validA, *]; try first | omega | (simp [wi]; omega) | (rw [Bool.eq_iff_iff]; simp; done) | (rw [Bool.eq_iff_iff]; simp; omega))
set_option maxRecDepth 100000 in
set_option maxHeartbeats 2000000 in
theorem rvalidAsk7 (s q t : Int) (k o : ByteArray) (l : Int) (w : World) :
    Calls Tryz.prog 13 #[.agg #[.int .i64 7, .int .i64 s, .int .i64 q, .int .i64 t, .string k, .string o, .int .i64 l]] w fun e w' => e = .returned (.bool (validA ⟨7, s, q, t, k, o, l⟩)) ∧ Below w.heap.size w w' := by
  have WI := Lib.hid (fun n a b W => rwithin_any n a b W)
  have hk : k = ByteArray.empty ↔ k.toList = [] := by rw [← List.length_eq_zero_iff, Lib.toList_data, ← ByteArray.size_eq_zero_iff]; simp
  have ho : o = ByteArray.empty ↔ o.toList = [] := by rw [← List.length_eq_zero_iff, Lib.toList_data, ← ByteArray.size_eq_zero_iff]; simp
  have HK := Lib.hid hk
  have HO := Lib.hid ho
  clear hk ho
  have hw : wi 7 0 9 = true := by decide
  go_enter Tryz.func13, Tryz.ntmps13
  go_wp2_with (first
    | (go_at_call 36; refine (WI.out _ _ _ _).mono ?_; rintro e w1 ⟨rfl, rfl⟩))
  all_goals go_ret
  all_goals refine ⟨congrArg (fun b => Ending.returned (Value.bool b)) (?_ : (_ : Bool) = _), (Below.refl _ _).alloc (Nat.le_refl _) _⟩
  all_goals (have hk := HK.out; have ho := HO.out; clear WI HK HO; try simp only [Bool.not_eq_true', Bool.not_eq_false', bne_iff_ne, bne_eq_false_iff_eq, List.isEmpty_iff, List.isEmpty_eq_false_iff, ne_eq] at *; simp [validA, *]; try first | omega | (simp [wi]; omega) | (rw [Bool.eq_iff_iff]; simp; done) | (rw [Bool.eq_iff_iff]; simp; omega))
set_option maxRecDepth 100000 in
set_option maxHeartbeats 2000000 in
theorem rvalidAsk8 (s q t : Int) (k o : ByteArray) (l : Int) (w : World) :
    Calls Tryz.prog 13 #[.agg #[.int .i64 8, .int .i64 s, .int .i64 q, .int .i64 t, .string k, .string o, .int .i64 l]] w fun e w' => e = .returned (.bool (validA ⟨8, s, q, t, k, o, l⟩)) ∧ Below w.heap.size w w' := by
  have WI := Lib.hid (fun n a b W => rwithin_any n a b W)
  have hk : k = ByteArray.empty ↔ k.toList = [] := by rw [← List.length_eq_zero_iff, Lib.toList_data, ← ByteArray.size_eq_zero_iff]; simp
  have ho : o = ByteArray.empty ↔ o.toList = [] := by rw [← List.length_eq_zero_iff, Lib.toList_data, ← ByteArray.size_eq_zero_iff]; simp
  have HK := Lib.hid hk
  have HO := Lib.hid ho
  clear hk ho
  have hw : wi 8 0 9 = true := by decide
  go_enter Tryz.func13, Tryz.ntmps13
  go_wp2_with (first
    | (go_at_call 36; refine (WI.out _ _ _ _).mono ?_; rintro e w1 ⟨rfl, rfl⟩))
  all_goals go_ret
  all_goals refine ⟨congrArg (fun b => Ending.returned (Value.bool b)) (?_ : (_ : Bool) = _), (Below.refl _ _).alloc (Nat.le_refl _) _⟩
  all_goals (have hk := HK.out; have ho := HO.out; clear WI HK HO; try simp only [Bool.not_eq_true', Bool.not_eq_false', bne_iff_ne, bne_eq_false_iff_eq, List.isEmpty_iff, List.isEmpty_eq_false_iff, ne_eq] at *; simp [validA, *]; try first | omega | (simp [wi]; omega) | (rw [Bool.eq_iff_iff]; simp; done) | (rw [Bool.eq_iff_iff]; simp; omega))
set_option maxRecDepth 100000 in
set_option maxHeartbeats 2000000 in
theorem rvalidAsk9 (s q t : Int) (k o : ByteArray) (l : Int) (w : World) :
    Calls Tryz.prog 13 #[.agg #[.int .i64 9, .int .i64 s, .int .i64 q, .int .i64 t, .string k, .string o, .int .i64 l]] w fun e w' => e = .returned (.bool (validA ⟨9, s, q, t, k, o, l⟩)) ∧ Below w.heap.size w w' := by
  have WI := Lib.hid (fun n a b W => rwithin_any n a b W)
  have hk : k = ByteArray.empty ↔ k.toList = [] := by rw [← List.length_eq_zero_iff, Lib.toList_data, ← ByteArray.size_eq_zero_iff]; simp
  have ho : o = ByteArray.empty ↔ o.toList = [] := by rw [← List.length_eq_zero_iff, Lib.toList_data, ← ByteArray.size_eq_zero_iff]; simp
  have HK := Lib.hid hk
  have HO := Lib.hid ho
  clear hk ho
  have hw : wi 9 0 9 = true := by decide
  go_enter Tryz.func13, Tryz.ntmps13
  go_wp2_with (first
    | (go_at_call 36; refine (WI.out _ _ _ _).mono ?_; rintro e w1 ⟨rfl, rfl⟩))
  all_goals go_ret
  all_goals refine ⟨congrArg (fun b => Ending.returned (Value.bool b)) (?_ : (_ : Bool) = _), (Below.refl _ _).alloc (Nat.le_refl _) _⟩
  all_goals (have hk := HK.out; have ho := HO.out; clear WI HK HO; try simp only [Bool.not_eq_true', Bool.not_eq_false', bne_iff_ne, bne_eq_false_iff_eq, List.isEmpty_iff, List.isEmpty_eq_false_iff, ne_eq] at *; simp [validA, *]; try first | omega | (simp [wi]; omega) | (rw [Bool.eq_iff_iff]; simp; done) | (rw [Bool.eq_iff_iff]; simp; omega))
set_option maxRecDepth 100000 in
set_option maxHeartbeats 2000000 in
theorem rvalidAskN (n : Int) (hn : ¬ (0 ≤ n ∧ n ≤ 9)) (s q t : Int) (k o : ByteArray) (l : Int) (w : World) :
    Calls Tryz.prog 13 #[.agg #[.int .i64 n, .int .i64 s, .int .i64 q, .int .i64 t, .string k, .string o, .int .i64 l]] w fun e w' => e = .returned (.bool (validA ⟨n, s, q, t, k, o, l⟩)) ∧ Below w.heap.size w w' := by
  have WI := Lib.hid (fun n a b W => rwithin_any n a b W)
  have hk : k = ByteArray.empty ↔ k.toList = [] := by rw [← List.length_eq_zero_iff, Lib.toList_data, ← ByteArray.size_eq_zero_iff]; simp
  have ho : o = ByteArray.empty ↔ o.toList = [] := by rw [← List.length_eq_zero_iff, Lib.toList_data, ← ByteArray.size_eq_zero_iff]; simp
  have HK := Lib.hid hk
  have HO := Lib.hid ho
  clear hk ho
  have h0 : ¬ n = 0 := by omega
  have h1 : ¬ n = 1 := by omega
  have h2 : ¬ n = 2 := by omega
  have h3 : ¬ n = 3 := by omega
  have h4 : ¬ n = 4 := by omega
  have h5 : ¬ n = 5 := by omega
  have h6 : ¬ n = 6 := by omega
  have h7 : ¬ n = 7 := by omega
  have h8 : ¬ n = 8 := by omega
  have h9 : ¬ n = 9 := by omega
  have hw : wi n 0 9 = false := by rw [Bool.eq_false_iff, Ne, wi_iff]; exact hn
  go_enter Tryz.func13, Tryz.ntmps13
  go_wp2_with (first
    | (go_at_call 36; refine (WI.out _ _ _ _).mono ?_; rintro e w1 ⟨rfl, rfl⟩))
  all_goals go_ret
  all_goals refine ⟨congrArg (fun b => Ending.returned (Value.bool b)) (?_ : (_ : Bool) = _), (Below.refl _ _).alloc (Nat.le_refl _) _⟩
  all_goals (have hk := HK.out; have ho := HO.out; clear WI HK HO; simp [validA, *]; try first | omega | (simp [wi]; omega) | (rw [Bool.eq_iff_iff]; simp; done) | (rw [Bool.eq_iff_iff]; simp; omega))
/-- ValidAsk. -/
theorem rvalidAsk_any (a : Frm.Ask) (w : World) :
    Calls Tryz.prog 13 #[.agg (cellA a).toArray] w fun e w' => e = .returned (.bool (validA a)) ∧ Below w.heap.size w w' := by
  obtain ⟨n, s, q, t, k, o, l⟩ := a
  by_cases hn : 0 ≤ n ∧ n ≤ 9
  · have : n = 0 ∨ n = 1 ∨ n = 2 ∨ n = 3 ∨ n = 4 ∨ n = 5 ∨ n = 6 ∨ n = 7 ∨ n = 8 ∨ n = 9 := by omega
    rcases this with rfl | rfl | rfl | rfl | rfl | rfl | rfl | rfl | rfl | rfl
    · exact rvalidAsk0 s q t k o l w
    · exact rvalidAsk1 s q t k o l w
    · exact rvalidAsk2 s q t k o l w
    · exact rvalidAsk3 s q t k o l w
    · exact rvalidAsk4 s q t k o l w
    · exact rvalidAsk5 s q t k o l w
    · exact rvalidAsk6 s q t k o l w
    · exact rvalidAsk7 s q t k o l w
    · exact rvalidAsk8 s q t k o l w
    · exact rvalidAsk9 s q t k o l w
  · exact rvalidAskN n hn s q t k o l w
end Go.Proofs.YtlbebdkockejcaaGreatDoor
namespace Go.Proofs.YtlbebdkockejcaaGreatDoor
open Go.RowKit Go.Proofs.Frm Go.Proofs.Mdl
set_option linter.unusedVariables false
set_option linter.unusedSimpArgs false
theorem all_step {T : Type} (f : T → Bool) {l : List T} {k : Nat} {x : T} (h : l[k]? = some x) : (l.take (k + 1)).all f = ((l.take k).all f && f x) := by
  rw [List.take_add_one, h]
  simp
theorem all_no {T : Type} (f : T → Bool) {l : List T} {k : Nat} {x : T} (h : l[k]? = some x) (hf : f x = false) : l.all f = false := by
  rw [Bool.eq_false_iff]
  intro ha
  rw [List.all_eq_true.1 ha x (List.mem_of_getElem? h)] at hf
  cases hf
set_option maxRecDepth 100000 in
set_option maxHeartbeats 4000000 in
theorem rvalidReply_any {w : World} {v : Value} {r : Frm.Rep} (h : Es w v r.entries) (hl : r.entries.length ≤ 1000) :
    Calls Tryz.prog 14 #[.agg (cellR r v).toArray] w fun e w' => e = .returned (.bool (validR r)) ∧ Below w.heap.size w w' := by
  obtain ⟨x1, x2, x3, x4, x5, l, x7, x8⟩ := r
  unfold cellR
  simp only at h hl ⊢
  obtain ⟨A, c, rfl⟩ := h.shape
  have WI := Lib.hid (fun n a b W => rwithin_any n a b W)
  have RO := Lib.hid (fun s W => rroot_any s W)
  obtain ⟨z, hz⟩ : ∃ z, z = l.length := ⟨_, rfl⟩
  rw [← hz] at h hl ⊢
  have HV : Hid (∀ b, l.all smallE = b → validR ⟨x1, x2, x3, x4, x5, l, x7, x8⟩ = (wi x1 0 1048576 && wi x2 0 1048576 && wi x4 0 1048576 && wi x3 0 12 && rootOk x5 && decide (x7.size ≤ 65536) && decide (z ≤ 8) && b)) := Lib.hid (fun b hb => by
    unfold validR
    simp only [hb, hz])
  obtain ⟨VR, hVR⟩ : ∃ q, q = validR ⟨x1, x2, x3, x4, x5, l, x7, x8⟩ := ⟨_, rfl⟩
  rw [← hVR]
  rw [← hVR] at HV
  clear hVR
  obtain ⟨w0, g, hw, e_g, hb0, bg, hz0⟩ := box_new w 27 #[.int .i64 x1, .int .i64 x2, .int .i64 x3, .int .i64 x4, .string x5, .slice A z c, .string x7, .bool x8]
  have HE := Lib.hid (h.below hb0)
  have HZ := Lib.hid hz
  have B0 := Lib.hid hb0
  have c0 := bg.cell 0
  have c1 := bg.cell 1
  have c2 := bg.cell 2
  have c3 := bg.cell 3
  have c4 := bg.cell 4
  have c5 := bg.cell 5
  have c6 := bg.cell 6
  have c7 := bg.cell 7
  simp only [List.getElem?_toArray, List.getElem?_cons_succ, List.getElem?_cons_zero] at c0 c1 c2 c3 c4 c5 c6 c7
  clear h hz hb0 bg hz0
  go_enter Tryz.func14, Tryz.ntmps14
  go_upto_region 1 with (fail)
  rw [← hw, ← e_g]
  clear hw e_g
  go_wp2_with fail
  go_loopw [3] (fun vi wr => ∃ k : Nat, vi = .int .i64 (k : Int) ∧ k ≤ z ∧ Hid (wr = w0) ∧ Hid ((l.take k).all smallE = true)) (fun vi _ => z - (intOf vi).toNat)
  case atStart => exact ⟨0, rfl, Nat.zero_le _, Lib.hid rfl, Lib.hid rfl⟩
  case round =>
    obtain ⟨k, rfl, hk, HW, HA⟩ := hrel
    obtain rfl := HW.out
    clear HW
    by_cases hlt : k < z
    · obtain ⟨x, hx⟩ : ∃ x, l[k]? = some x := ⟨_, List.getElem?_eq_getElem (by rw [← HZ.out]; exact hlt)⟩
      obtain ⟨b, o, c', hv, hbl, d0, d1⟩ := HE.out.at_ hx
      simp only [Value.slice.injEq] at hv
      obtain ⟨rfl, -, -⟩ := hv
      have i1 : (k : Int) < (z : Int) := by omega
      have wk : IntKind.i64.wrap ((k : Int) + 1) = (k : Int) + 1 := IntWalk.i64_in _ (by omega)
      rcases hs : smallE x with _ | _
      · have hno := HV.out false (all_no smallE hx hs)
        rw [Bool.and_false] at hno
        subst hno
        have hs2 : ¬ (x.k.size ≤ 6 ∧ x.v.size ≤ 80) := by unfold smallE at hs; simpa using hs
        clear hs hx HV
        by_cases j1 : (6 : Int) < (x.k.size : Int)
        · go_wp2_with fail
          go_ret
          exact ⟨rfl, B0.out⟩
        · have j2 : (80 : Int) < (x.v.size : Int) := by omega
          go_wp2_with fail
          go_ret
          exact ⟨rfl, B0.out⟩
      · have hs2 : x.k.size ≤ 6 ∧ x.v.size ≤ 80 := by unfold smallE at hs; simpa using hs
        have j1 : ¬ (6 : Int) < (x.k.size : Int) := by omega
        have j2 : ¬ (80 : Int) < (x.v.size : Int) := by omega
        have ST := Lib.hid (all_step smallE hx)
        have HS := Lib.hid hs
        clear hs hx
        go_wp2_with fail
        refine ⟨⟨k + 1, rfl, hlt, Lib.hid trivial, Lib.hid ?_⟩, by simp [intOf]; omega⟩
        rw [ST.out, HA.out, HS.out]
        rfl
    · have i1 : ¬ (k : Int) < (z : Int) := by omega
      have hyes := HV.out true (by have := HA.out; rwa [List.take_of_length_le (by have := HZ.out; omega)] at this)
      rw [Bool.and_true] at hyes
      subst hyes
      clear HV
      go_wp2_with (first
        | (go_at_call 36; refine (WI.out _ _ _ _).mono ?_; rintro e w1 ⟨rfl, rfl⟩)
        | (go_at_call 37; refine (RO.out _ _).mono ?_; rintro e w1 ⟨rfl, rfl⟩))
      all_goals go_ret
      all_goals refine ⟨congrArg (fun b => Ending.returned (Value.bool b)) (?_ : (_ : Bool) = _), B0.out⟩
      all_goals (clear WI RO HE HA; simp [*]; try first | omega | (rw [Bool.eq_iff_iff]; simp; omega))
set_option maxRecDepth 100000 in
set_option maxHeartbeats 4000000 in
theorem rvalidNotice_any {w : World} {v : Value} {r : Frm.Ntc} (h : Cs w v r.changes) (hl : r.changes.length ≤ 1000) :
    Calls Tryz.prog 15 #[.agg (cellN r v).toArray] w fun e w' => e = .returned (.bool (validN r)) ∧ Below w.heap.size w w' := by
  obtain ⟨x1, x2, x3, x4, l⟩ := r
  unfold cellN
  simp only at h hl ⊢
  obtain ⟨A, c, rfl⟩ := h.shape
  have WI := Lib.hid (fun n a b W => rwithin_any n a b W)
  have RO := Lib.hid (fun s W => rroot_any s W)
  obtain ⟨z, hz⟩ : ∃ z, z = l.length := ⟨_, rfl⟩
  rw [← hz] at h hl ⊢
  have HV : Hid (∀ b, l.all smallC = b → validN ⟨x1, x2, x3, x4, l⟩ = (wi x1 0 1048576 && wi x3 0 1048576 && (decide (x2 = 0) || decide (x2 = 11)) && rootOk x4 && decide (z ≤ 80) && b)) := Lib.hid (fun b hb => by
    unfold validN
    simp only [hb, hz])
  obtain ⟨VR, hVR⟩ : ∃ q, q = validN ⟨x1, x2, x3, x4, l⟩ := ⟨_, rfl⟩
  rw [← hVR]
  rw [← hVR] at HV
  clear hVR
  obtain ⟨w0, g, hw, e_g, hb0, bg, hz0⟩ := box_new w 30 #[.int .i64 x1, .int .i64 x2, .int .i64 x3, .string x4, .slice A z c]
  have HE := Lib.hid (h.below hb0)
  have HZ := Lib.hid hz
  have B0 := Lib.hid hb0
  have c0 := bg.cell 0
  have c1 := bg.cell 1
  have c2 := bg.cell 2
  have c3 := bg.cell 3
  have c4 := bg.cell 4
  simp only [List.getElem?_toArray, List.getElem?_cons_succ, List.getElem?_cons_zero] at c0 c1 c2 c3 c4
  clear h hz hb0 bg hz0
  go_enter Tryz.func15, Tryz.ntmps15
  go_upto_region 1 with (fail)
  rw [← hw, ← e_g]
  clear hw e_g
  go_wp2_with fail
  go_loopw [3] (fun vi wr => ∃ k : Nat, vi = .int .i64 (k : Int) ∧ k ≤ z ∧ Hid (wr = w0) ∧ Hid ((l.take k).all smallC = true)) (fun vi _ => z - (intOf vi).toNat)
  case atStart => exact ⟨0, rfl, Nat.zero_le _, Lib.hid rfl, Lib.hid rfl⟩
  case round =>
    obtain ⟨k, rfl, hk, HW, HA⟩ := hrel
    obtain rfl := HW.out
    clear HW
    by_cases hlt : k < z
    · obtain ⟨x, hx⟩ : ∃ x, l[k]? = some x := ⟨_, List.getElem?_eq_getElem (by rw [← HZ.out]; exact hlt)⟩
      obtain ⟨b, o, c', hv, hbl, d0, d1, d2⟩ := HE.out.at_ hx
      simp only [Value.slice.injEq] at hv
      obtain ⟨rfl, -, -⟩ := hv
      have i1 : (k : Int) < (z : Int) := by omega
      have wk : IntKind.i64.wrap ((k : Int) + 1) = (k : Int) + 1 := IntWalk.i64_in _ (by omega)
      rcases hs : smallC x with _ | _
      · have hno := HV.out false (all_no smallC hx hs)
        rw [Bool.and_false] at hno
        subst hno
        have hs2 : ¬ (x.k.size ≤ 6 ∧ x.v.size ≤ 80) := by unfold smallC at hs; simpa using hs
        clear hs hx HV
        by_cases j1 : (6 : Int) < (x.k.size : Int)
        · go_wp2_with fail
          go_ret
          exact ⟨rfl, B0.out⟩
        · have j2 : (80 : Int) < (x.v.size : Int) := by omega
          go_wp2_with fail
          go_ret
          exact ⟨rfl, B0.out⟩
      · have hs2 : x.k.size ≤ 6 ∧ x.v.size ≤ 80 := by unfold smallC at hs; simpa using hs
        have j1 : ¬ (6 : Int) < (x.k.size : Int) := by omega
        have j2 : ¬ (80 : Int) < (x.v.size : Int) := by omega
        have ST := Lib.hid (all_step smallC hx)
        have HS := Lib.hid hs
        clear hs hx
        go_wp2_with fail
        refine ⟨⟨k + 1, rfl, hlt, Lib.hid trivial, Lib.hid ?_⟩, by simp [intOf]; omega⟩
        rw [ST.out, HA.out, HS.out]
        rfl
    · have i1 : ¬ (k : Int) < (z : Int) := by omega
      have hyes := HV.out true (by have := HA.out; rwa [List.take_of_length_le (by have := HZ.out; omega)] at this)
      rw [Bool.and_true] at hyes
      subst hyes
      clear HV
      go_wp2_with (first
        | (go_at_call 36; refine (WI.out _ _ _ _).mono ?_; rintro e w1 ⟨rfl, rfl⟩)
        | (go_at_call 37; refine (RO.out _ _).mono ?_; rintro e w1 ⟨rfl, rfl⟩))
      all_goals go_ret
      all_goals refine ⟨congrArg (fun b => Ending.returned (Value.bool b)) (?_ : (_ : Bool) = _), B0.out⟩
      all_goals (clear WI RO HE HA; simp [*]; try first | omega | (rw [Bool.eq_iff_iff]; simp; omega))
end Go.Proofs.YtlbebdkockejcaaGreatDoor
namespace Go.Proofs.YtlbebdkockejcaaGreatDoor
open Go.RowKit Go.Proofs.Frm Go.Proofs.Mdl
set_option linter.unusedVariables false
set_option linter.unusedSimpArgs false
/-- A list of items that stand in a block. -/
theorem rlist_lit (xs : List ByteArray) (b : Nat) (W : World) (h : Blk W b 9 (xs.map Value.string).toArray) (hn : xs.length ≤ 100) (hs : (dat xs).flatten.length ≤ 1000000) :
    Calls Tryz.prog 31 #[.slice (some ⟨b, 0, none⟩) xs.length xs.length] W fun e w' => e = .returned (.string (Nod.listB xs)) ∧ Below W.heap.size W w' :=
  rlist_any xs.length (.inr ⟨b, 0, rfl, h.lt, fun j z hx => by
    rw [Nat.zero_add, h.cell, List.getElem?_toArray, List.getElem?_map, hx]
    rfl⟩) (by omega) hs
/-- A list of items that stand in a row. -/
theorem rlist_own {xs : List ByteArray} {base : Nat} {v : Value} {W : World} (h : W.ownsRow base 9 1 v xs.length (xs.map Value.string)) (hn : xs.length ≤ 1000) (hs : (dat xs).flatten.length ≤ 1000000) :
    Calls Tryz.prog 31 #[v] W fun e w' => e = .returned (.string (Nod.listB xs)) ∧ Below W.heap.size W w' := by
  obtain ⟨A, c, rfl, h2, _⟩ := Sl.of_own h
  exact rlist_any c h2 hn hs
set_option maxRecDepth 100000 in
set_option maxHeartbeats 4000000 in
/-- PutAsk. -/
theorem rputAsk_any (a : Frm.Ask) (w : World) :
    Calls Tryz.prog 8 #[.agg (cellA a).toArray] w fun e w' => e = .returned (.tuple #[.string (if validA a then putA a else z0), .int .i64 (if validA a then 0 else 1)]) ∧ Below w.heap.size w w' := by
  have VA := Lib.hid (fun W => rvalidAsk_any a W)
  rcases hv : validA a with _ | _
  · rw [hv] at VA
    unfold cellA at *
    simp only [Bool.false_eq_true, if_false]
    clear hv
    go_enter Tryz.func8, Tryz.ntmps8
    go_wp2_with (first
      | (go_at_call 13; refine (VA.out _).mono ?_; rintro e w1 ⟨rfl, hb⟩; have B1 := Lib.hid hb; clear hb))
    go_ret2
    exact ⟨rfl, ((Below.refl _ _).alloc (Nat.le_refl _) _).trans (B1.out.mono (by simp))⟩
  · rw [hv] at VA
    have f := factsA hv
    have hd := itemsA_dat f
    have hp : putA a = Nod.listB (itemsA a) := rfl
    rw [hp]
    simp only [if_true]
    clear hv hp
    obtain ⟨x1, x2, x3, x4, x5, x6, x7⟩ := a
    unfold itemsA at hd ⊢
    unfold cellA at *
    obtain ⟨k0, k1, s0, s1, q0, q1, t0, t1, l0, l1, hx, hy⟩ := f
    simp only at k0 k1 s0 s1 q0 q1 t0 t1 l0 l1 hx hy hd VA ⊢
    have C0 := Lib.hid (fun W => rnumz_any 0 W (by decide) (by decide))
    have C1 := Lib.hid (fun W => rnumz_any x1 W k0 (by omega))
    have C2 := Lib.hid (fun W => rnumz_any x2 W s0 (by omega))
    have C3 := Lib.hid (fun W => rnumz_any x3 W q0 (by omega))
    have C4 := Lib.hid (fun W => rnumz_any (x4 + 1) W (by omega) (by omega))
    have C5 := Lib.hid (fun W => rtext_any x5 W (by omega))
    have C6 := Lib.hid (fun W => rtext_any x6 W (by omega))
    have C7 := Lib.hid (fun W => rnumz_any x7 W l0 (by omega))
    obtain ⟨S0, hS0⟩ : ∃ q, q = numZ 0 := ⟨_, rfl⟩
    obtain ⟨S1, hS1⟩ : ∃ q, q = numZ x1 := ⟨_, rfl⟩
    obtain ⟨S2, hS2⟩ : ∃ q, q = numZ x2 := ⟨_, rfl⟩
    obtain ⟨S3, hS3⟩ : ∃ q, q = numZ x3 := ⟨_, rfl⟩
    obtain ⟨S4, hS4⟩ : ∃ q, q = numZ (x4 + 1) := ⟨_, rfl⟩
    obtain ⟨S5, hS5⟩ : ∃ q, q = Nod.textB x5 := ⟨_, rfl⟩
    obtain ⟨S6, hS6⟩ : ∃ q, q = Nod.textB x6 := ⟨_, rfl⟩
    obtain ⟨S7, hS7⟩ : ∃ q, q = numZ x7 := ⟨_, rfl⟩
    simp only [← hS0, ← hS1, ← hS2, ← hS3, ← hS4, ← hS5, ← hS6, ← hS7] at C0 C1 C2 C3 C4 C5 C6 C7 hd ⊢
    have HD := Lib.hid hd
    have X4 : Hid (-1 ≤ x4 ∧ x4 ≤ 1000000000) := Lib.hid ⟨t0, by omega⟩
    clear hd hS0 hS1 hS2 hS3 hS4 hS5 hS6 hS7 k0 k1 s0 s1 q0 q1 t0 t1 l0 l1 hx hy
    obtain ⟨w0, N, hw, hN, hb0, k0, hz⟩ := box_new w 23 #[.int .i64 x1, .int .i64 x2, .int .i64 x3, .int .i64 x4, .string x5, .string x6, .int .i64 x7]
    have B0 := Lib.hid hb0
    have K0 := Lib.hid k0
    clear hb0 k0 hz
    go_enter Tryz.func8, Tryz.ntmps8
    go_upto_region 1 with (fail)
    rw [← hw, ← hN]
    clear hw hN
    have c0 := K0.out.cell 0
    have c1 := K0.out.cell 1
    have c2 := K0.out.cell 2
    have c3 := K0.out.cell 3
    have c4 := K0.out.cell 4
    have c5 := K0.out.cell 5
    have c6 := K0.out.cell 6
    simp only [List.getElem?_toArray, List.getElem?_cons_succ, List.getElem?_cons_zero] at c0 c1 c2 c3 c4 c5 c6
    go_upto_region 3 with (go_at_call 13; refine (VA.out _).mono ?_; rintro e w1 ⟨rfl, hb⟩; have B1 := Lib.hid (B0.out.trans (hb.mono B0.out.size)); have K1 := Lib.hid (K0.out.below hb); clear hb)
    clear c0 c1 c2 c3 c4 c5 c6
    refine Segs.wp_region_last (fun WW => Blk WW N 23 #[.int .i64 x1, .int .i64 x2, .int .i64 x3, .int .i64 x4, .string x5, .string x6, .int .i64 x7]) [(1, false), (2, false), (4, false), (5, false), (7, false), (8, false), (10, false), (11, false), (12, false), (14, false), (15, false), (17, false), (18, false), (20, false), (21, false), (0, true), (3, true), (6, true), (9, true), (13, true), (16, true), (19, true), (22, true), (23, true), (24, true), (25, true), (26, true)] (by kernel_rfl) (by kernel_rfl) (by kernel_rfl) rfl (by kernel_rfl) (by exact K1.out) ?_
    have K2 : Hid (Blk w1.drew N 23 #[.int .i64 x1, .int .i64 x2, .int .i64 x3, .int .i64 x4, .string x5, .string x6, .int .i64 x7]) := Lib.hid (by exact K1.out)
    have B3 := Lib.hid (B1.out.drew)
    generalize w1.drew = W1 at K2 B3 ⊢
    refine Segs.WQ.val 1 rfl (some 8) (.pointer (some ⟨N, 0, none⟩)) rfl (by kernel_rfl) (fun WW hG => by kernel_rfl) ?_
    simp only [Act.put, List.setIfInBounds_toArray, List.set_cons_zero, List.set_cons_succ]
    refine Segs.WQ.val 2 rfl (some 9) (.int .i64 x1) rfl (by kernel_rfl) (fun WW hG => Segs.run_cell 3 (.tmp 8) rfl N 0 (by kernel_rfl) _ (isAggInt _) (by rw [hG.cell]; rfl)) ?_
    simp only [Act.put, List.setIfInBounds_toArray, List.set_cons_zero, List.set_cons_succ]
    refine Segs.WQ.val 4 rfl (some 11) (.pointer (some ⟨N, 1, none⟩)) rfl (by kernel_rfl) (fun WW hG => by kernel_rfl) ?_
    simp only [Act.put, List.setIfInBounds_toArray, List.set_cons_zero, List.set_cons_succ]
    refine Segs.WQ.val 5 rfl (some 12) (.int .i64 x2) rfl (by kernel_rfl) (fun WW hG => Segs.run_cell 3 (.tmp 11) rfl N 1 (by kernel_rfl) _ (isAggInt _) (by rw [hG.cell]; rfl)) ?_
    simp only [Act.put, List.setIfInBounds_toArray, List.set_cons_zero, List.set_cons_succ]
    refine Segs.WQ.val 7 rfl (some 14) (.pointer (some ⟨N, 2, none⟩)) rfl (by kernel_rfl) (fun WW hG => by kernel_rfl) ?_
    simp only [Act.put, List.setIfInBounds_toArray, List.set_cons_zero, List.set_cons_succ]
    refine Segs.WQ.val 8 rfl (some 15) (.int .i64 x3) rfl (by kernel_rfl) (fun WW hG => Segs.run_cell 3 (.tmp 14) rfl N 2 (by kernel_rfl) _ (isAggInt _) (by rw [hG.cell]; rfl)) ?_
    simp only [Act.put, List.setIfInBounds_toArray, List.set_cons_zero, List.set_cons_succ]
    refine Segs.WQ.val 10 rfl (some 17) (.pointer (some ⟨N, 3, none⟩)) rfl (by kernel_rfl) (fun WW hG => by kernel_rfl) ?_
    simp only [Act.put, List.setIfInBounds_toArray, List.set_cons_zero, List.set_cons_succ]
    refine Segs.WQ.val 11 rfl (some 18) (.int .i64 x4) rfl (by kernel_rfl) (fun WW hG => Segs.run_cell 3 (.tmp 17) rfl N 3 (by kernel_rfl) _ (isAggInt _) (by rw [hG.cell]; rfl)) ?_
    simp only [Act.put, List.setIfInBounds_toArray, List.set_cons_zero, List.set_cons_succ]
    refine Segs.WQ.val 12 rfl (some 19) (.int .i64 (x4 + 1)) rfl (by kernel_rfl) (fun WW hG => run_succF rfl x4 (by kernel_rfl) (by kernel_rfl) X4.out) ?_
    simp only [Act.put, List.setIfInBounds_toArray, List.set_cons_zero, List.set_cons_succ]
    refine Segs.WQ.val 14 rfl (some 21) (.pointer (some ⟨N, 4, none⟩)) rfl (by kernel_rfl) (fun WW hG => by kernel_rfl) ?_
    simp only [Act.put, List.setIfInBounds_toArray, List.set_cons_zero, List.set_cons_succ]
    refine Segs.WQ.val 15 rfl (some 22) (.string x5) rfl (by kernel_rfl) (fun WW hG => Segs.run_cell 9 (.tmp 21) rfl N 4 (by kernel_rfl) _ (isAggStr _) (by rw [hG.cell]; rfl)) ?_
    simp only [Act.put, List.setIfInBounds_toArray, List.set_cons_zero, List.set_cons_succ]
    refine Segs.WQ.val 17 rfl (some 24) (.pointer (some ⟨N, 5, none⟩)) rfl (by kernel_rfl) (fun WW hG => by kernel_rfl) ?_
    simp only [Act.put, List.setIfInBounds_toArray, List.set_cons_zero, List.set_cons_succ]
    refine Segs.WQ.val 18 rfl (some 25) (.string x6) rfl (by kernel_rfl) (fun WW hG => Segs.run_cell 9 (.tmp 24) rfl N 5 (by kernel_rfl) _ (isAggStr _) (by rw [hG.cell]; rfl)) ?_
    simp only [Act.put, List.setIfInBounds_toArray, List.set_cons_zero, List.set_cons_succ]
    refine Segs.WQ.val 20 rfl (some 27) (.pointer (some ⟨N, 6, none⟩)) rfl (by kernel_rfl) (fun WW hG => by kernel_rfl) ?_
    simp only [Act.put, List.setIfInBounds_toArray, List.set_cons_zero, List.set_cons_succ]
    refine Segs.WQ.val 21 rfl (some 28) (.int .i64 x7) rfl (by kernel_rfl) (fun WW hG => Segs.run_cell 3 (.tmp 27) rfl N 6 (by kernel_rfl) _ (isAggInt _) (by rw [hG.cell]; rfl)) ?_
    simp only [Act.put, List.setIfInBounds_toArray, List.set_cons_zero, List.set_cons_succ]
    refine Segs.WQ.acall 0 rfl (some 7) 32 #[.int .i64 0] _ rfl rfl (fun W => by kernel_rfl) (C0.out W1) (fun e W4 hR => ?_)
    obtain ⟨rfl, hb⟩ := hR
    refine ⟨_, rfl, fun _ => K2.out.below hb, ?_⟩
    simp only [Act.put, List.setIfInBounds_toArray, List.set_cons_zero, List.set_cons_succ]
    have K5 := Lib.hid (K2.out.below hb)
    have B6 := Lib.hid (B3.out.trans (hb.mono B3.out.size))
    clear hb
    refine Segs.WQ.acall 3 rfl (some 10) 32 #[.int .i64 x1] _ rfl rfl (fun W => by kernel_rfl) (C1.out W4) (fun e W7 hR => ?_)
    obtain ⟨rfl, hb⟩ := hR
    refine ⟨_, rfl, fun _ => K5.out.below hb, ?_⟩
    simp only [Act.put, List.setIfInBounds_toArray, List.set_cons_zero, List.set_cons_succ]
    have K8 := Lib.hid (K5.out.below hb)
    have B9 := Lib.hid (B6.out.trans (hb.mono B6.out.size))
    clear hb
    refine Segs.WQ.acall 6 rfl (some 13) 32 #[.int .i64 x2] _ rfl rfl (fun W => by kernel_rfl) (C2.out W7) (fun e W10 hR => ?_)
    obtain ⟨rfl, hb⟩ := hR
    refine ⟨_, rfl, fun _ => K8.out.below hb, ?_⟩
    simp only [Act.put, List.setIfInBounds_toArray, List.set_cons_zero, List.set_cons_succ]
    have K11 := Lib.hid (K8.out.below hb)
    have B12 := Lib.hid (B9.out.trans (hb.mono B9.out.size))
    clear hb
    refine Segs.WQ.acall 9 rfl (some 16) 32 #[.int .i64 x3] _ rfl rfl (fun W => by kernel_rfl) (C3.out W10) (fun e W13 hR => ?_)
    obtain ⟨rfl, hb⟩ := hR
    refine ⟨_, rfl, fun _ => K11.out.below hb, ?_⟩
    simp only [Act.put, List.setIfInBounds_toArray, List.set_cons_zero, List.set_cons_succ]
    have K14 := Lib.hid (K11.out.below hb)
    have B15 := Lib.hid (B12.out.trans (hb.mono B12.out.size))
    clear hb
    refine Segs.WQ.acall 13 rfl (some 20) 32 #[.int .i64 (x4 + 1)] _ rfl rfl (fun W => by kernel_rfl) (C4.out W13) (fun e W16 hR => ?_)
    obtain ⟨rfl, hb⟩ := hR
    refine ⟨_, rfl, fun _ => K14.out.below hb, ?_⟩
    simp only [Act.put, List.setIfInBounds_toArray, List.set_cons_zero, List.set_cons_succ]
    have K17 := Lib.hid (K14.out.below hb)
    have B18 := Lib.hid (B15.out.trans (hb.mono B15.out.size))
    clear hb
    refine Segs.WQ.acall 16 rfl (some 23) 33 #[.string x5] _ rfl rfl (fun W => by kernel_rfl) (C5.out W16) (fun e W19 hR => ?_)
    obtain ⟨rfl, hb⟩ := hR
    refine ⟨_, rfl, fun _ => K17.out.below hb, ?_⟩
    simp only [Act.put, List.setIfInBounds_toArray, List.set_cons_zero, List.set_cons_succ]
    have K20 := Lib.hid (K17.out.below hb)
    have B21 := Lib.hid (B18.out.trans (hb.mono B18.out.size))
    clear hb
    refine Segs.WQ.acall 19 rfl (some 26) 33 #[.string x6] _ rfl rfl (fun W => by kernel_rfl) (C6.out W19) (fun e W22 hR => ?_)
    obtain ⟨rfl, hb⟩ := hR
    refine ⟨_, rfl, fun _ => K20.out.below hb, ?_⟩
    simp only [Act.put, List.setIfInBounds_toArray, List.set_cons_zero, List.set_cons_succ]
    have K23 := Lib.hid (K20.out.below hb)
    have B24 := Lib.hid (B21.out.trans (hb.mono B21.out.size))
    clear hb
    refine Segs.WQ.acall 22 rfl (some 29) 32 #[.int .i64 x7] _ rfl rfl (fun W => by kernel_rfl) (C7.out W22) (fun e W25 hR => ?_)
    obtain ⟨rfl, hb⟩ := hR
    refine ⟨_, rfl, fun _ => K23.out.below hb, ?_⟩
    simp only [Act.put, List.setIfInBounds_toArray, List.set_cons_zero, List.set_cons_succ]
    have K26 := Lib.hid (K23.out.below hb)
    have B27 := Lib.hid (B24.out.trans (hb.mono B24.out.size))
    clear hb
    obtain ⟨r28, hr28⟩ : ∃ n, n = W25.heap.size := ⟨_, rfl⟩
    refine Segs.WQ.aval 23 rfl (some 30) (.slice (some ⟨r28, 0, none⟩) 8 8) (W25.alloc (.cells #[.string S0, .string S1, .string S2, .string S3, .string S4, .string S5, .string S6, .string S7] 9)) rfl rfl (by rw [hr28]; exact Segs.run_slice_of 60 9 8 _ rfl _ Tryz.underlying60 (by kernel_rfl)) (fun _ => K26.out.alloc _) ?_
    simp only [Act.put, List.setIfInBounds_toArray, List.set_cons_zero, List.set_cons_succ]
    have K30 := Lib.hid (K26.out.alloc (.cells #[.string S0, .string S1, .string S2, .string S3, .string S4, .string S5, .string S6, .string S7] 9))
    have B31 := Lib.hid (B27.out.alloc B27.out.size (.cells #[.string S0, .string S1, .string S2, .string S3, .string S4, .string S5, .string S6, .string S7] 9))
    have Q32 := Lib.hid (by have := Blk.new W25 9 #[.string S0, .string S1, .string S2, .string S3, .string S4, .string S5, .string S6, .string S7]; rw [← hr28] at this; exact this)
    generalize W25.alloc (.cells #[.string S0, .string S1, .string S2, .string S3, .string S4, .string S5, .string S6, .string S7] 9) = W29 at K30 B31 Q32 ⊢
    clear hr28
    refine Segs.WQ.acall 24 rfl (some 31) 31 #[.slice (some ⟨r28, 0, none⟩) 8 8] _ rfl rfl (fun W => by kernel_rfl) (rlist_lit [S0, S1, S2, S3, S4, S5, S6, S7] r28 W29 Q32.out (by simp) (Nat.le_trans HD.out (by decide))) (fun e W33 hR => ?_)
    obtain ⟨rfl, hb⟩ := hR
    refine ⟨_, rfl, fun _ => K30.out.below hb, ?_⟩
    simp only [Act.put, List.setIfInBounds_toArray, List.set_cons_zero, List.set_cons_succ]
    have K34 := Lib.hid (K30.out.below hb)
    have B35 := Lib.hid (B31.out.trans (hb.mono B31.out.size))
    clear hb
    refine Segs.WQ.aval 25 rfl (some 2) (.string (Nod.listB [S0, S1, S2, S3, S4, S5, S6, S7])) W33 rfl rfl (by kernel_rfl) (fun _ => K34.out) ?_
    simp only [Act.put, List.setIfInBounds_toArray, List.set_cons_zero, List.set_cons_succ]
    refine Segs.WQ.aval 26 rfl (some 3) (.int .i64 0) W33 rfl rfl (by kernel_rfl) (fun _ => K34.out) ?_
    simp only [Act.put, List.setIfInBounds_toArray, List.set_cons_zero, List.set_cons_succ]
    refine Segs.WQ.fin ?_
    go_wp2_with fail
    go_ret2
    exact ⟨rfl, B35.out⟩
end Go.Proofs.YtlbebdkockejcaaGreatDoor

/-
  Merged: NibWorks, NibMore, NibRef.
-/
import Derived.Test.YtlbebdkockejcaaGreatDoorGaNib
namespace Go.Proofs.YtlbebdkockejcaaGreatDoor
open Go.RowKit
end Go.Proofs.YtlbebdkockejcaaGreatDoor
namespace Go.Proofs.YtlbebdkockejcaaGreatDoor
open Go.RowKit
theorem joined (a b : ByteArray) : (Nib.bs (Nib.path a.data.toList) ++ Nib.bs (Nib.path b.data.toList)) = Nib.bs (Nib.path (a ++ b).data.toList) := by
  rw [Nib.data_append, Nib.path_append, Nib.bs_append]
end Go.Proofs.YtlbebdkockejcaaGreatDoor
namespace Go.Proofs.YtlbebdkockejcaaGreatDoor
open Go.RowKit
theorem take_next (s : ByteArray) (k : Nat) (h : k < s.size) : s.data.toList.take (k + 1) = s.data.toList.take k ++ [s[k]] := by
  rw [List.take_succ_eq_append_getElem (by simpa using h), byte_get s k h]
/-- Two bytes in a row, made a string. -/
theorem conv_two (x y : Int) (u v : UInt8) (hx : x = (u.toNat : Int)) (hy : y = (v.toNat : Int)) (W : World) (b : Nat) (h0 : W.cell? ⟨b, 0, none⟩ = some (.int .u8 x)) (h1 : W.cell? ⟨b, 1, none⟩ = some (.int .u8 y)) :
    (convert 55 9 (.slice (some ⟨b, 0, none⟩) 2 2)).run Tryz.prog W = .ok (.string (Nib.bs [u, v])) W := by
  subst hx hy
  have g := run_convert_bytes_arg (P := Tryz.prog) W 55 5 Tryz.underlying55 Tryz.underlying5 b 0 2 2 ([u, v].map fun b => (b.toNat : Int)) rfl (fun i hi => by
    rcases (show i = 0 ∨ i = 1 by omega) with rfl | rfl
    · simpa using h0
    · simpa using h1) 9 Tryz.underlying9
  rw [g, strOfNums_bytes]
theorem conv_oneN (x : Int) (u : UInt8) (hx : x = (u.toNat : Int)) (W : World) (b : Nat) (h0 : W.cell? ⟨b, 0, none⟩ = some (.int .u8 x)) :
    (convert 55 9 (.slice (some ⟨b, 0, none⟩) 1 1)).run Tryz.prog W = .ok (.string (Nib.bs [u])) W := by
  subst hx
  have g := run_convert_bytes_arg (P := Tryz.prog) W 55 5 Tryz.underlying55 Tryz.underlying5 b 0 1 1 ([u].map fun b => (b.toNat : Int)) rfl (fun i hi => by
    obtain rfl : i = 0 := by omega
    simpa using h0) 9 Tryz.underlying9
  rw [g, strOfNums_bytes]
theorem take_two (s : ByteArray) (k : Nat) (h : 2 * k + 1 < s.size) : s.data.toList.take (2 * (k + 1)) = s.data.toList.take (2 * k) ++ [s[2 * k], s[2 * k + 1]] := by
  rw [show 2 * (k + 1) = (2 * k + 1) + 1 by omega, take_next s (2 * k + 1) h, take_next s (2 * k) (by omega)]
  simp
theorem pack_two (l : List UInt8) (x y : UInt8) (h : l.length % 2 = 0) : Nib.pack (l ++ [x, y]) = Nib.pack l ++ [x * 16 + y] := by
  fun_induction Nib.pack l with
  | case1 a b r ih =>
    have := ih (by simp at h; omega)
    simp [Nib.pack, this]
  | case2 l hl =>
    match l, hl with
    | [], _ => rfl
    | [a], _ => simp at h
    | a :: b :: r, hl => exact absurd rfl (hl a b r)
theorem u8_less (x y : UInt8) (b : Bool) : (decide (x / 16 < y / 16) || ((x / 16 == y / 16) && (decide (x % 16 < y % 16) || ((x % 16 == y % 16) && b)))) = (decide (x < y) || ((x == y) && b)) := by
  have hx := x.toNat_lt
  have hy := y.toNat_lt
  have e1 : (x / 16).toNat = x.toNat / 16 := by simp
  have e2 : (y / 16).toNat = y.toNat / 16 := by simp
  have e3 : (x % 16).toNat = x.toNat % 16 := by simp
  have e4 : (y % 16).toNat = y.toNat % 16 := by simp
  have q : ∀ a b : UInt8, (a == b) = decide (a.toNat = b.toNat) := fun a b => by
    by_cases h : a = b
    · simp [h]
    · have : a.toNat ≠ b.toNat := fun e => h (UInt8.toNat_inj.1 e)
      simp [h, this]
  rw [q, q, q]
  simp only [UInt8.lt_iff_toNat_lt, e1, e2, e3, e4]
  cases b
  · simp only [Bool.and_false, Bool.or_false]
    rw [Bool.eq_iff_iff]
    simp only [Bool.or_eq_true, Bool.and_eq_true, decide_eq_true_eq]
    omega
  · simp only [Bool.and_true]
    rw [Bool.eq_iff_iff]
    simp only [Bool.or_eq_true, Bool.and_eq_true, decide_eq_true_eq]
    omega
theorem path_less (a b : List UInt8) : Op.bytesLess (Nib.path a) (Nib.path b) = Op.bytesLess a b := by
  induction a generalizing b with
  | nil => cases b <;> rfl
  | cons x r ih =>
    cases b with
    | nil => rfl
    | cons y t =>
      simp only [Nib.path, Op.bytesLess]
      rw [ih t, u8_less]
theorem tail_data (a : ByteArray) (x : UInt8) (r : List UInt8) (h : a.data.toList = x :: r) : (a.extract 1 a.size).data.toList = r := by
  rw [Lib.extract_data, h, Lib.size_eq, h]; simp
theorem tail_size (a : ByteArray) (x : UInt8) (r : List UInt8) (h : a.data.toList = x :: r) : (a.extract 1 a.size).size = r.length := by
  rw [← Nib.len_of, tail_data a x r h]
end Go.Proofs.YtlbebdkockejcaaGreatDoor

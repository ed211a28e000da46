/-
  The document's wrap, Text, List of rlp.
-/
import Derived.Test.YtlbebdkockejcaaGreatDoorRefRlp
import Derived.Test.YtlbebdkockejcaaGreatDoorRefRlpB
import Derived.Test.YtlbebdkockejcaaGreatDoorGaNodeA
namespace Go.Proofs.YtlbebdkockejcaaGreatDoor
open Go.RowKit Go.Proofs.Rlp
set_option linter.unusedVariables false
set_option linter.unusedSimpArgs false
set_option maxRecDepth 100000 in
set_option maxHeartbeats 2000000 in
theorem rwrap_any (b : ByteArray) (t : Nat) (w : World) (hb : b.size ≤ 1048576) (ht : t ≤ 192) :
    Calls Tryz.prog 60 #[.string b, .int .i64 (t : Int)] w fun e w' => e = .returned (.string (Nib.bs (head t b.size) ++ b)) ∧ Below w.heap.size w w' := by
  by_cases h55 : b.size ≤ 55
  · obtain ⟨m, hm⟩ : ∃ m, m = t + b.size := ⟨_, rfl⟩
    have hh : head t b.size = [UInt8.ofNat m] := by unfold head; rw [if_pos h55, hm]
    rw [hh]
    have wa : IntKind.i64.wrap ((t : Int) + (b.size : Int)) = (m : Int) := by rw [IntWalk.i64_in _ (by omega)]; omega
    have wc : IntKind.u8.wrap (m : Int) = (m : Int) := IntWalk.u8_in _ (by omega)
    have CV := fun W => conv_oneN (W := W) (m : Int) (UInt8.ofNat m) (by rw [UInt8.toNat_ofNat']; omega)
    have hz : (Nib.bs [UInt8.ofNat m]).size ≤ 1 := by rw [Nib.bs_size]; simp
    have i1 : (b.size : Int) ≤ 55 := by omega
    clear hm hh
    generalize Nib.bs [UInt8.ofNat m] = H at *
    go_enter Tryz.func60, Tryz.ntmps60
    go_wp2_with fail
    go_ret
    exact ⟨rfl, ((Bl.start w).alloc _).1⟩
  · obtain ⟨D, hD⟩ : ∃ D, D = Nib.bs (digs b.size) := ⟨_, rfl⟩
    have hDs : D.size = (digs b.size).length := by rw [hD, Nib.bs_size]
    have hD8 : D.size ≤ 8 := by rw [hDs]; exact digs_length _
    obtain ⟨m, hm⟩ : ∃ m, m = t + 55 + D.size := ⟨_, rfl⟩
    have hh : Nib.bs (head t b.size) = Nib.bs [UInt8.ofNat m] ++ D := by unfold head; rw [if_neg h55, hm, hDs, hD, ← Nib.bs_append]; rfl
    rw [hh]
    have BY := Lib.hid (fun W => rbytes_any b.size W (by omega))
    rw [← hD] at BY
    have wu : IntKind.u64.wrap (b.size : Int) = (b.size : Int) := IntWalk.u64_in _ (by omega)
    have w0 : IntKind.i64.wrap ((t : Int) + 55) = (t : Int) + 55 := IntWalk.i64_in _ (by omega)
    have wa : IntKind.i64.wrap ((t : Int) + 55 + (D.size : Int)) = (m : Int) := by rw [IntWalk.i64_in _ (by omega)]; omega
    have wc : IntKind.u8.wrap (m : Int) = (m : Int) := IntWalk.u8_in _ (by omega)
    have CV := fun W => conv_oneN (W := W) (m : Int) (UInt8.ofNat m) (by rw [UInt8.toNat_ofNat']; omega)
    have hz : (Nib.bs [UInt8.ofNat m]).size ≤ 1 := by rw [Nib.bs_size]; simp
    have i1 : ¬ (b.size : Int) ≤ 55 := by omega
    clear hm hh hD hDs
    generalize Nib.bs [UInt8.ofNat m] = H at *
    have hHD : (H ++ D).size ≤ 9 := by rw [ByteArray.size_append]; omega
    go_enter Tryz.func60, Tryz.ntmps60
    go_wp2_with (first | (go_at_call 82; refine (BY.out _).mono ?_; clear BY; rintro e w1 ⟨rfl, hb1⟩))
    go_ret
    exact ⟨rfl, (((Bl.start w).call hb1).alloc _).1⟩
theorem text_own {b : ByteArray} (h : own b.data.toList = true) : Nod.textB b = b := by
  unfold Nod.textB Rlp.text
  rw [if_pos h]
  exact Nib.bs_of b
end Go.Proofs.YtlbebdkockejcaaGreatDoor

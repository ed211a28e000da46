/-
  The document's Bytes of rlp.
-/
import Derived.Test.YtlbebdkockejcaaGreatDoorRefRlpP
import Derived.Test.YtlbebdkockejcaaGreatDoorGaNibM
import Derived.Test.YtlbebdkockejcaaGreatDoorGaFar
namespace Go.Proofs.YtlbebdkockejcaaGreatDoor
open Go.RowKit Go.Proofs.Rlp
set_option linter.unusedVariables false
set_option linter.unusedSimpArgs false
set_option maxRecDepth 100000 in
set_option maxHeartbeats 2000000 in
theorem rbytes_any : ∀ (n : Nat) (W : World), n < 18446744073709551616 → Calls Tryz.prog 82 #[.int .u64 (n : Int)] W fun e w' => e = .returned (.string (Nib.bs (digs n))) ∧ Below W.heap.size W w' := by
  intro n
  induction n using Nat.strongRecOn with
  | ind n ih =>
    intro w hn
    by_cases h0 : n = 0
    · subst h0
      rw [digs_zero]
      go_enter Tryz.func82, Tryz.ntmps82
      go_wp2_with fail
      go_ret
      exact ⟨rfl, Below.refl _ _⟩
    · have IH := Lib.hid (fun W => ih (n / 256) (Nat.div_lt_self (by omega) (by decide)) W (by omega))
      obtain ⟨D, hD⟩ : ∃ D, D = Nib.bs (digs (n / 256)) := ⟨_, rfl⟩
      have ST : Hid (Nib.bs (digs n) = D ++ Nib.bs [UInt8.ofNat n]) := Lib.hid (by rw [digs_step hn h0, Nib.bs_append, hD])
      rw [ST.out]
      rw [← hD] at IH
      obtain ⟨E, hE⟩ : ∃ E, E = D ++ Nib.bs [UInt8.ofNat n] := ⟨_, rfl⟩
      rw [← hE]
      have HE := Lib.hid hE
      have HDS : Hid (D.size ≤ 8) := Lib.hid (by rw [hD, Nib.bs_size]; exact digs_length _)
      have q0 : ¬ (n : Int) = 0 := by omega
      have q1 : IntKind.u64.wrap ((n : Int) / 256) = ((n / 256 : Nat) : Int) := by rw [show (n : Int) / 256 = ((n / 256 : Nat) : Int) by omega]; exact IntWalk.u64_in _ (by omega)
      have q3 : IntKind.u8.wrap ((n : Int).tmod 256) = (n : Int) % 256 := by rw [show (n : Int).tmod 256 = ((n % 256 : Nat) : Int) from rfl, IntWalk.u8_in _ (by omega)]; omega
      have hz1 : (Nib.bs [UInt8.ofNat n]).size ≤ 1 := by rw [Nib.bs_size]; simp
      have CV := fun W => conv_oneN (W := W) ((n : Int) % 256) (UInt8.ofNat n) (by simp [UInt8.toNat_ofNat'])
      clear hD hE ih ST
      go_enter Tryz.func82, Tryz.ntmps82
      go_wp2_with fail
      have DS : D.size ≤ 8 := by have := HDS.out; exact this
      have HLT : Hid (w.heap.size < ((w.drew).alloc (.cells #[.int .u8 ((n : Int) % 256)] 5)).heap.size) := Lib.hid (by simp)
      have HC0 : Hid (((w.drew).alloc (.cells #[.int .u8 ((n : Int) % 256)] 5)).cell? ⟨w.heap.size, 0, none⟩ = some (.int .u8 ((n : Int) % 256))) := Lib.hid ((Blk.new w.drew 5 #[.int .u8 ((n : Int) % 256)]).cell 0)
      go_region_with (go_at_call 82; refine (IH.out _).mono ?_; rintro e w1 ⟨rfl, hb1⟩; try have c1 := (hb1.cell (p := ⟨w.heap.size, 0, none⟩) HLT.out).trans HC0.out)
      all_goals go_wp2_with fail
      all_goals go_ret
      all_goals rw [HE.out]
      all_goals first
        | exact ⟨rfl, (((Bl.start w).drew.call hb1).alloc _).1⟩
        | exact ⟨rfl, (((Bl.start w).alloc _).drew.call hb1).1⟩
end Go.Proofs.YtlbebdkockejcaaGreatDoor

import Derived.Test.YtgeonbkoihegnaaDoorBase
import Derived.Laws.BitsAllLaws
namespace Go.Proofs.Sha
/-- x turned round to the right by n bits. -/
def rotr (x : UInt32) (n : UInt32) : UInt32 := (x <<< (32 - n)) ||| (x >>> n)
theorem or_nat (a b : UInt32) : bits BinOp.or IntKind.u32 (a.toNat : Int) (b.toNat : Int) = ((a ||| b).toNat : Int) := by
  rw [u32_or_nat _ _ a.toNat_lt b.toNat_lt, UInt32.toNat_or]
theorem xor_nat (a b : UInt32) : bits BinOp.xor IntKind.u32 (a.toNat : Int) (b.toNat : Int) = ((a ^^^ b).toNat : Int) := by
  rw [u32_xor_nat _ _ a.toNat_lt b.toNat_lt, UInt32.toNat_xor]
theorem and_nat (a b : UInt32) : bits BinOp.and IntKind.u32 (a.toNat : Int) (b.toNat : Int) = ((a &&& b).toNat : Int) := by
  rw [u32_and_nat _ _ a.toNat_lt b.toNat_lt, UInt32.toNat_and]
theorem add_nat (a b : UInt32) : ((a.toNat : Int) + (b.toNat : Int)) % 4294967296 = ((a + b).toNat : Int) := by
  rw [UInt32.toNat_add]; omega
theorem wrap_add_nat (a b : UInt32) : IntKind.u32.wrap ((a.toNat : Int) + (b.toNat : Int)) = ((a + b).toNat : Int) := by
  rw [IntKind.wrap_u32, add_nat]
theorem shl_nat (x : UInt32) (k : Nat) (hk : k < 32) : ((x.toNat : Int) * ((2 ^ k : Nat) : Int)) % 4294967296 = ((x <<< UInt32.ofNat k).toNat : Int) := by
  rw [UInt32.toNat_shiftLeft, UInt32.toNat_ofNat_of_lt' (Nat.lt_trans hk (by decide)), Nat.mod_eq_of_lt hk, Nat.shiftLeft_eq]
  omega
theorem shr_nat (x : UInt32) (k : Nat) (hk : k < 32) : (x.toNat : Int) / ((2 ^ k : Nat) : Int) = ((x >>> UInt32.ofNat k).toNat : Int) := by
  rw [UInt32.toNat_shiftRight, UInt32.toNat_ofNat_of_lt' (Nat.lt_trans hk (by decide)), Nat.mod_eq_of_lt hk, Nat.shiftRight_eq_div_pow]
  omega
theorem rot_nat (x : UInt32) (n m : Nat) (hn : n < 32) (hm : m < 32) (h : (32 - UInt32.ofNat n) = UInt32.ofNat m) : bits BinOp.or IntKind.u32 ((x.toNat : Int) * ((2 ^ m : Nat) : Int) % 4294967296) ((x.toNat : Int) / ((2 ^ n : Nat) : Int)) = ((rotr x (UInt32.ofNat n)).toNat : Int) := by
  rw [shl_nat x m hm, shr_nat x n hn, or_nat, rotr, h]
end Go.Proofs.Sha
namespace Go.Proofs.YtgeonbkoihegnaaDoor
open Go.RowKit
theorem rot2 (x : UInt32) (w : World) :
    Calls Tryd.prog 46 #[.int .u32 (x.toNat : Int), .int .i64 2] w fun e w' => e = .returned (.int .u32 ((Sha.rotr x 2).toNat : Int)) ∧ w = w' := by
  have hx : (x.toNat : Int) < 4294967296 := by have := x.toNat_lt; omega
  have hk : bits BinOp.and IntKind.u64 (IntKind.u64.wrap (-2)) 31 = 30 := by decide +kernel
  go_enter Tryd.func46, Tryd.ntmps46
  go_wp2
  go_ret
  exact ⟨ret_int (Sha.rot_nat x 2 30 (by decide) (by decide) rfl), rfl⟩
theorem rot6 (x : UInt32) (w : World) :
    Calls Tryd.prog 46 #[.int .u32 (x.toNat : Int), .int .i64 6] w fun e w' => e = .returned (.int .u32 ((Sha.rotr x 6).toNat : Int)) ∧ w = w' := by
  have hx : (x.toNat : Int) < 4294967296 := by have := x.toNat_lt; omega
  have hk : bits BinOp.and IntKind.u64 (IntKind.u64.wrap (-6)) 31 = 26 := by decide +kernel
  go_enter Tryd.func46, Tryd.ntmps46
  go_wp2
  go_ret
  exact ⟨ret_int (Sha.rot_nat x 6 26 (by decide) (by decide) rfl), rfl⟩
theorem rot7 (x : UInt32) (w : World) :
    Calls Tryd.prog 46 #[.int .u32 (x.toNat : Int), .int .i64 7] w fun e w' => e = .returned (.int .u32 ((Sha.rotr x 7).toNat : Int)) ∧ w = w' := by
  have hx : (x.toNat : Int) < 4294967296 := by have := x.toNat_lt; omega
  have hk : bits BinOp.and IntKind.u64 (IntKind.u64.wrap (-7)) 31 = 25 := by decide +kernel
  go_enter Tryd.func46, Tryd.ntmps46
  go_wp2
  go_ret
  exact ⟨ret_int (Sha.rot_nat x 7 25 (by decide) (by decide) rfl), rfl⟩
theorem rot11 (x : UInt32) (w : World) :
    Calls Tryd.prog 46 #[.int .u32 (x.toNat : Int), .int .i64 11] w fun e w' => e = .returned (.int .u32 ((Sha.rotr x 11).toNat : Int)) ∧ w = w' := by
  have hx : (x.toNat : Int) < 4294967296 := by have := x.toNat_lt; omega
  have hk : bits BinOp.and IntKind.u64 (IntKind.u64.wrap (-11)) 31 = 21 := by decide +kernel
  go_enter Tryd.func46, Tryd.ntmps46
  go_wp2
  go_ret
  exact ⟨ret_int (Sha.rot_nat x 11 21 (by decide) (by decide) rfl), rfl⟩
theorem rot13 (x : UInt32) (w : World) :
    Calls Tryd.prog 46 #[.int .u32 (x.toNat : Int), .int .i64 13] w fun e w' => e = .returned (.int .u32 ((Sha.rotr x 13).toNat : Int)) ∧ w = w' := by
  have hx : (x.toNat : Int) < 4294967296 := by have := x.toNat_lt; omega
  have hk : bits BinOp.and IntKind.u64 (IntKind.u64.wrap (-13)) 31 = 19 := by decide +kernel
  go_enter Tryd.func46, Tryd.ntmps46
  go_wp2
  go_ret
  exact ⟨ret_int (Sha.rot_nat x 13 19 (by decide) (by decide) rfl), rfl⟩
theorem rot17 (x : UInt32) (w : World) :
    Calls Tryd.prog 46 #[.int .u32 (x.toNat : Int), .int .i64 17] w fun e w' => e = .returned (.int .u32 ((Sha.rotr x 17).toNat : Int)) ∧ w = w' := by
  have hx : (x.toNat : Int) < 4294967296 := by have := x.toNat_lt; omega
  have hk : bits BinOp.and IntKind.u64 (IntKind.u64.wrap (-17)) 31 = 15 := by decide +kernel
  go_enter Tryd.func46, Tryd.ntmps46
  go_wp2
  go_ret
  exact ⟨ret_int (Sha.rot_nat x 17 15 (by decide) (by decide) rfl), rfl⟩
theorem rot18 (x : UInt32) (w : World) :
    Calls Tryd.prog 46 #[.int .u32 (x.toNat : Int), .int .i64 18] w fun e w' => e = .returned (.int .u32 ((Sha.rotr x 18).toNat : Int)) ∧ w = w' := by
  have hx : (x.toNat : Int) < 4294967296 := by have := x.toNat_lt; omega
  have hk : bits BinOp.and IntKind.u64 (IntKind.u64.wrap (-18)) 31 = 14 := by decide +kernel
  go_enter Tryd.func46, Tryd.ntmps46
  go_wp2
  go_ret
  exact ⟨ret_int (Sha.rot_nat x 18 14 (by decide) (by decide) rfl), rfl⟩
theorem rot19 (x : UInt32) (w : World) :
    Calls Tryd.prog 46 #[.int .u32 (x.toNat : Int), .int .i64 19] w fun e w' => e = .returned (.int .u32 ((Sha.rotr x 19).toNat : Int)) ∧ w = w' := by
  have hx : (x.toNat : Int) < 4294967296 := by have := x.toNat_lt; omega
  have hk : bits BinOp.and IntKind.u64 (IntKind.u64.wrap (-19)) 31 = 13 := by decide +kernel
  go_enter Tryd.func46, Tryd.ntmps46
  go_wp2
  go_ret
  exact ⟨ret_int (Sha.rot_nat x 19 13 (by decide) (by decide) rfl), rfl⟩
theorem rot22 (x : UInt32) (w : World) :
    Calls Tryd.prog 46 #[.int .u32 (x.toNat : Int), .int .i64 22] w fun e w' => e = .returned (.int .u32 ((Sha.rotr x 22).toNat : Int)) ∧ w = w' := by
  have hx : (x.toNat : Int) < 4294967296 := by have := x.toNat_lt; omega
  have hk : bits BinOp.and IntKind.u64 (IntKind.u64.wrap (-22)) 31 = 10 := by decide +kernel
  go_enter Tryd.func46, Tryd.ntmps46
  go_wp2
  go_ret
  exact ⟨ret_int (Sha.rot_nat x 22 10 (by decide) (by decide) rfl), rfl⟩
theorem rot25 (x : UInt32) (w : World) :
    Calls Tryd.prog 46 #[.int .u32 (x.toNat : Int), .int .i64 25] w fun e w' => e = .returned (.int .u32 ((Sha.rotr x 25).toNat : Int)) ∧ w = w' := by
  have hx : (x.toNat : Int) < 4294967296 := by have := x.toNat_lt; omega
  have hk : bits BinOp.and IntKind.u64 (IntKind.u64.wrap (-25)) 31 = 7 := by decide +kernel
  go_enter Tryd.func46, Tryd.ntmps46
  go_wp2
  go_ret
  exact ⟨ret_int (Sha.rot_nat x 25 7 (by decide) (by decide) rfl), rfl⟩
end Go.Proofs.YtgeonbkoihegnaaDoor

/-
  Merged: ShaRot, ShaSched, ShaTurn, ShaWrite, ShaSum, ShaSum2, ShaOf.
-/
import Derived.Test.YtfeonjiiijdibaaGreatDoorGaRlp
import Derived.Laws.BitsAllLaws
import Derived.Deep.WholeRow
import Derived.Maps.AppendAt
import Derived.Lib.LazyBuf
import Derived.Lib.SliceRun
import Derived.Lib.IndexBytes
import Derived.StillTailTactics
import Derived.Lib.HexFns
namespace Go.Proofs.Sha
/-- x turned round to the right by n bits. -/
def rotr (x : UInt32) (n : UInt32) : UInt32 := (x <<< (32 - n)) ||| (x >>> n)
theorem or_nat (a b : UInt32) : bits BinOp.or IntKind.u32 (a.toNat : Int) (b.toNat : Int) = ((a ||| b).toNat : Int) := by
  rw [u32_or_nat _ _ a.toNat_lt b.toNat_lt, UInt32.toNat_or]
theorem xor_nat (a b : UInt32) : bits BinOp.xor IntKind.u32 (a.toNat : Int) (b.toNat : Int) = ((a ^^^ b).toNat : Int) := by
  rw [u32_xor_nat _ _ a.toNat_lt b.toNat_lt, UInt32.toNat_xor]
theorem and_nat (a b : UInt32) : bits BinOp.and IntKind.u32 (a.toNat : Int) (b.toNat : Int) = ((a &&& b).toNat : Int) := by
  rw [u32_and_nat _ _ a.toNat_lt b.toNat_lt, UInt32.toNat_and]
theorem add_nat (a b : UInt32) : ((a.toNat : Int) + (b.toNat : Int)) % 4294967296 = ((a + b).toNat : Int) := by
  rw [UInt32.toNat_add]; omega
theorem wrap_add_nat (a b : UInt32) : IntKind.u32.wrap ((a.toNat : Int) + (b.toNat : Int)) = ((a + b).toNat : Int) := by
  rw [IntKind.wrap_u32, add_nat]
theorem shl_nat (x : UInt32) (k : Nat) (hk : k < 32) : ((x.toNat : Int) * ((2 ^ k : Nat) : Int)) % 4294967296 = ((x <<< UInt32.ofNat k).toNat : Int) := by
  rw [UInt32.toNat_shiftLeft, UInt32.toNat_ofNat_of_lt' (Nat.lt_trans hk (by decide)), Nat.mod_eq_of_lt hk, Nat.shiftLeft_eq]
  omega
theorem shr_nat (x : UInt32) (k : Nat) (hk : k < 32) : (x.toNat : Int) / ((2 ^ k : Nat) : Int) = ((x >>> UInt32.ofNat k).toNat : Int) := by
  rw [UInt32.toNat_shiftRight, UInt32.toNat_ofNat_of_lt' (Nat.lt_trans hk (by decide)), Nat.mod_eq_of_lt hk, Nat.shiftRight_eq_div_pow]
  omega
theorem rot_nat (x : UInt32) (n m : Nat) (hn : n < 32) (hm : m < 32) (h : (32 - UInt32.ofNat n) = UInt32.ofNat m) : bits BinOp.or IntKind.u32 ((x.toNat : Int) * ((2 ^ m : Nat) : Int) % 4294967296) ((x.toNat : Int) / ((2 ^ n : Nat) : Int)) = ((rotr x (UInt32.ofNat n)).toNat : Int) := by
  rw [shl_nat x m hm, shr_nat x n hn, or_nat, rotr, h]
end Go.Proofs.Sha
namespace Go.Proofs.YtfeonjiiijdibaaGreatDoor
open Go.RowKit
theorem rot2 (x : UInt32) (w : World) :
    Calls Tryz.prog 130 #[.int .u32 (x.toNat : Int), .int .i64 2] w fun e w' => e = .returned (.int .u32 ((Sha.rotr x 2).toNat : Int)) ∧ w = w' := by
  have hx : (x.toNat : Int) < 4294967296 := by have := x.toNat_lt; omega
  have hk : bits BinOp.and IntKind.u64 (IntKind.u64.wrap (-2)) 31 = 30 := by decide +kernel
  go_enter Tryz.func130, Tryz.ntmps130
  go_wp2
  go_ret
  exact ⟨ret_int (Sha.rot_nat x 2 30 (by decide) (by decide) rfl), rfl⟩
theorem rot6 (x : UInt32) (w : World) :
    Calls Tryz.prog 130 #[.int .u32 (x.toNat : Int), .int .i64 6] w fun e w' => e = .returned (.int .u32 ((Sha.rotr x 6).toNat : Int)) ∧ w = w' := by
  have hx : (x.toNat : Int) < 4294967296 := by have := x.toNat_lt; omega
  have hk : bits BinOp.and IntKind.u64 (IntKind.u64.wrap (-6)) 31 = 26 := by decide +kernel
  go_enter Tryz.func130, Tryz.ntmps130
  go_wp2
  go_ret
  exact ⟨ret_int (Sha.rot_nat x 6 26 (by decide) (by decide) rfl), rfl⟩
theorem rot7 (x : UInt32) (w : World) :
    Calls Tryz.prog 130 #[.int .u32 (x.toNat : Int), .int .i64 7] w fun e w' => e = .returned (.int .u32 ((Sha.rotr x 7).toNat : Int)) ∧ w = w' := by
  have hx : (x.toNat : Int) < 4294967296 := by have := x.toNat_lt; omega
  have hk : bits BinOp.and IntKind.u64 (IntKind.u64.wrap (-7)) 31 = 25 := by decide +kernel
  go_enter Tryz.func130, Tryz.ntmps130
  go_wp2
  go_ret
  exact ⟨ret_int (Sha.rot_nat x 7 25 (by decide) (by decide) rfl), rfl⟩
theorem rot11 (x : UInt32) (w : World) :
    Calls Tryz.prog 130 #[.int .u32 (x.toNat : Int), .int .i64 11] w fun e w' => e = .returned (.int .u32 ((Sha.rotr x 11).toNat : Int)) ∧ w = w' := by
  have hx : (x.toNat : Int) < 4294967296 := by have := x.toNat_lt; omega
  have hk : bits BinOp.and IntKind.u64 (IntKind.u64.wrap (-11)) 31 = 21 := by decide +kernel
  go_enter Tryz.func130, Tryz.ntmps130
  go_wp2
  go_ret
  exact ⟨ret_int (Sha.rot_nat x 11 21 (by decide) (by decide) rfl), rfl⟩
theorem rot13 (x : UInt32) (w : World) :
    Calls Tryz.prog 130 #[.int .u32 (x.toNat : Int), .int .i64 13] w fun e w' => e = .returned (.int .u32 ((Sha.rotr x 13).toNat : Int)) ∧ w = w' := by
  have hx : (x.toNat : Int) < 4294967296 := by have := x.toNat_lt; omega
  have hk : bits BinOp.and IntKind.u64 (IntKind.u64.wrap (-13)) 31 = 19 := by decide +kernel
  go_enter Tryz.func130, Tryz.ntmps130
  go_wp2
  go_ret
  exact ⟨ret_int (Sha.rot_nat x 13 19 (by decide) (by decide) rfl), rfl⟩
theorem rot17 (x : UInt32) (w : World) :
    Calls Tryz.prog 130 #[.int .u32 (x.toNat : Int), .int .i64 17] w fun e w' => e = .returned (.int .u32 ((Sha.rotr x 17).toNat : Int)) ∧ w = w' := by
  have hx : (x.toNat : Int) < 4294967296 := by have := x.toNat_lt; omega
  have hk : bits BinOp.and IntKind.u64 (IntKind.u64.wrap (-17)) 31 = 15 := by decide +kernel
  go_enter Tryz.func130, Tryz.ntmps130
  go_wp2
  go_ret
  exact ⟨ret_int (Sha.rot_nat x 17 15 (by decide) (by decide) rfl), rfl⟩
theorem rot18 (x : UInt32) (w : World) :
    Calls Tryz.prog 130 #[.int .u32 (x.toNat : Int), .int .i64 18] w fun e w' => e = .returned (.int .u32 ((Sha.rotr x 18).toNat : Int)) ∧ w = w' := by
  have hx : (x.toNat : Int) < 4294967296 := by have := x.toNat_lt; omega
  have hk : bits BinOp.and IntKind.u64 (IntKind.u64.wrap (-18)) 31 = 14 := by decide +kernel
  go_enter Tryz.func130, Tryz.ntmps130
  go_wp2
  go_ret
  exact ⟨ret_int (Sha.rot_nat x 18 14 (by decide) (by decide) rfl), rfl⟩
theorem rot19 (x : UInt32) (w : World) :
    Calls Tryz.prog 130 #[.int .u32 (x.toNat : Int), .int .i64 19] w fun e w' => e = .returned (.int .u32 ((Sha.rotr x 19).toNat : Int)) ∧ w = w' := by
  have hx : (x.toNat : Int) < 4294967296 := by have := x.toNat_lt; omega
  have hk : bits BinOp.and IntKind.u64 (IntKind.u64.wrap (-19)) 31 = 13 := by decide +kernel
  go_enter Tryz.func130, Tryz.ntmps130
  go_wp2
  go_ret
  exact ⟨ret_int (Sha.rot_nat x 19 13 (by decide) (by decide) rfl), rfl⟩
theorem rot22 (x : UInt32) (w : World) :
    Calls Tryz.prog 130 #[.int .u32 (x.toNat : Int), .int .i64 22] w fun e w' => e = .returned (.int .u32 ((Sha.rotr x 22).toNat : Int)) ∧ w = w' := by
  have hx : (x.toNat : Int) < 4294967296 := by have := x.toNat_lt; omega
  have hk : bits BinOp.and IntKind.u64 (IntKind.u64.wrap (-22)) 31 = 10 := by decide +kernel
  go_enter Tryz.func130, Tryz.ntmps130
  go_wp2
  go_ret
  exact ⟨ret_int (Sha.rot_nat x 22 10 (by decide) (by decide) rfl), rfl⟩
theorem rot25 (x : UInt32) (w : World) :
    Calls Tryz.prog 130 #[.int .u32 (x.toNat : Int), .int .i64 25] w fun e w' => e = .returned (.int .u32 ((Sha.rotr x 25).toNat : Int)) ∧ w = w' := by
  have hx : (x.toNat : Int) < 4294967296 := by have := x.toNat_lt; omega
  have hk : bits BinOp.and IntKind.u64 (IntKind.u64.wrap (-25)) 31 = 7 := by decide +kernel
  go_enter Tryz.func130, Tryz.ntmps130
  go_wp2
  go_ret
  exact ⟨ret_int (Sha.rot_nat x 25 7 (by decide) (by decide) rfl), rfl⟩
end Go.Proofs.YtfeonjiiijdibaaGreatDoor
namespace Go.Proofs.Sha
def s0 (x : UInt32) : UInt32 := rotr x 7 ^^^ rotr x 18 ^^^ (x >>> 3)
def s1 (x : UInt32) : UInt32 := rotr x 17 ^^^ rotr x 19 ^^^ (x >>> 10)
/-- Four bytes as a word. -/
def word (a b c d : UInt8) : UInt32 := a.toUInt32 <<< 24 ||| b.toUInt32 <<< 16 ||| c.toUInt32 <<< 8 ||| d.toUInt32
/-- The first n words that a block is. -/
def sched (b : Nat → UInt8) : Nat → List UInt32
  | 0 => []
  | n + 1 =>
    let l := sched b n
    l ++ [if n < 16 then word (b (4 * n)) (b (4 * n + 1)) (b (4 * n + 2)) (b (4 * n + 3)) else l.getD (n - 16) 0 + s0 (l.getD (n - 15) 0) + l.getD (n - 7) 0 + s1 (l.getD (n - 2) 0)]
end Go.Proofs.Sha
namespace Go.Proofs.YtfeonjiiijdibaaGreatDoor
open Go.RowKit
/-- Bytes, and words, as an array's value. -/
def byteVals (b : Nat → UInt8) (n : Nat) : Array Value := ((List.range n).map fun i => Value.int .u8 ((b i).toNat : Int)).toArray
def wordVals (f : Nat → UInt32) (n : Nat) : Array Value := ((List.range n).map fun i => Value.int .u32 ((f i).toNat : Int)).toArray
theorem size_wordVals (f : Nat → UInt32) (n : Nat) : (wordVals f n).size = n := by simp [wordVals]
theorem size_byteVals (f : Nat → UInt8) (n : Nat) : (byteVals f n).size = n := by simp [byteVals]
theorem s0_nat (x : UInt32) : bits BinOp.xor IntKind.u32 (bits BinOp.xor IntKind.u32 ((Sha.rotr x 7).toNat : Int) ((Sha.rotr x 18).toNat : Int)) ((x.toNat : Int) / 8) = ((Sha.s0 x).toNat : Int) := by
  have e := Sha.shr_nat x 3 (by decide)
  have f : (x.toNat : Int) / (8 : Int) = ((x >>> 3).toNat : Int) := e
  rw [f, Sha.xor_nat, Sha.xor_nat]
  rfl
theorem s1_nat (x : UInt32) : bits BinOp.xor IntKind.u32 (bits BinOp.xor IntKind.u32 ((Sha.rotr x 17).toNat : Int) ((Sha.rotr x 19).toNat : Int)) ((x.toNat : Int) / 1024) = ((Sha.s1 x).toNat : Int) := by
  have e := Sha.shr_nat x 10 (by decide)
  have f : (x.toNat : Int) / (1024 : Int) = ((x >>> 10).toNat : Int) := e
  rw [f, Sha.xor_nat, Sha.xor_nat]
  rfl
theorem add4_nat (a b c d : UInt32) : ((a.toNat : Int) + (b.toNat : Int) + (c.toNat : Int) + (d.toNat : Int)) % 4294967296 = ((a + b + c + d).toNat : Int) := by
  rw [UInt32.toNat_add, UInt32.toNat_add, UInt32.toNat_add]; omega
theorem rowIs_fill (w : World) (c : Array Value) (t : TypeId) (n : Nat) (v : Value) (hc : c = Array.replicate n v) : (w.alloc (.cells c t)).rowIs w.heap.size t n (fun _ => v) := by
  have h := World.rowIs_alloc w c t (fun _ => v) (fun i hi => by subst hc; simp at hi; simp [hi])
  rwa [hc, Array.size_replicate, ← hc] at h
theorem rowIs_bytes (w : World) (b : Nat → UInt8) (t : TypeId) (n : Nat) : (w.alloc (.cells (byteVals b n) t)).rowIs w.heap.size t n (fun i => .int .u8 ((b i).toNat : Int)) := by
  have h := World.rowIs_alloc w (byteVals b n) t (fun i => .int .u8 ((b i).toNat : Int)) (fun i hi => by simp [byteVals] at hi; simp [byteVals, hi])
  rwa [show (byteVals b n).size = n by simp [byteVals]] at h
theorem word_nat (a b c d : UInt8) : bits BinOp.or IntKind.u32 (bits BinOp.or IntKind.u32 (bits BinOp.or IntKind.u32 ((a.toNat : Int) * 16777216 % 4294967296) ((b.toNat : Int) * 65536 % 4294967296)) ((c.toNat : Int) * 256 % 4294967296)) (d.toNat : Int) = ((Sha.word a b c d).toNat : Int) := by
  have e1 := Sha.shl_nat a.toUInt32 24 (by decide)
  have e2 := Sha.shl_nat b.toUInt32 16 (by decide)
  have e3 := Sha.shl_nat c.toUInt32 8 (by decide)
  rw [UInt8.toNat_toUInt32] at e1 e2 e3
  have f1 : (a.toNat : Int) * (16777216 : Int) % (4294967296 : Int) = ((a.toUInt32 <<< 24).toNat : Int) := e1
  have f2 : (b.toNat : Int) * (65536 : Int) % (4294967296 : Int) = ((b.toUInt32 <<< 16).toNat : Int) := e2
  have f3 : (c.toNat : Int) * (256 : Int) % (4294967296 : Int) = ((c.toUInt32 <<< 8).toNat : Int) := e3
  rw [f1, f2, f3, Sha.or_nat, Sha.or_nat, ← UInt8.toNat_toUInt32 d, Sha.or_nat]
  rfl
theorem len66 : Tryz.prog.arrayLen 123 = 64 := by kernel_rfl
theorem arr66 : Tryz.prog.underlying 123 = some (.array (Tryz.prog.arrayLen 123) (Tryz.prog.elem 123)) := by kernel_rfl
theorem elem66 (w : World) : (sizeOf (Tryz.prog.elem 123)).run Tryz.prog w = .ok 1 w := by kernel_rfl
/-- Four bytes of a block. -/
theorem slice4 (g k : Nat) (hk : k < 16) (W : World) : (Instr.sliceAt 123 (.pointer (some ⟨g, 0, none⟩)) (some (.int .i64 (4 * (k : Int)))) (some (.int .i64 (4 * (k : Int) + 4))) (some (.int .i64 (4 * (k : Int) + 4)))).run Tryz.prog W = .ok (.slice (some ⟨g, 4 * k, none⟩) 4 4) W := by
  rw [run_sliceAt_array_lhm W 123 _ arr66 .i64 .i64 .i64 _ _ _ (by omega) (by omega) (by omega) (by rw [len66]; omega), elem66]
  have e1 : (4 * (k : Int)).toNat = 4 * k := by omega
  have e2 : (4 * (k : Int) + 4).toNat = 4 * k + 4 := by omega
  simp only [Result.andThen, slicedAt]
  rw [e1, e2, if_neg (by omega)]
  simp [Addr.add]
  omega
/-- The words that were reckoned, as cells. -/
def wordsTo (l : List UInt32) (k j : Nat) : Value := if j < k then .int .u32 ((l.getD j 0).toNat : Int) else .int .u32 0
theorem wordsTo_step (l : List UInt32) (k : Nat) (n : Int) (hn : n = ((l.getD k 0).toNat : Int)) (j : Nat) : (if j = k then (Value.int .u32 n) else wordsTo l k j) = wordsTo l (k + 1) j := by
  unfold wordsTo
  by_cases h : j = k
  · subst h; simp [hn]
  · rw [if_neg h]
    by_cases h1 : j < k
    · rw [if_pos h1, if_pos (by omega)]
    · rw [if_neg h1, if_neg (by omega)]
theorem sched_length (b : Nat → UInt8) (n : Nat) : (Sha.sched b n).length = n := by
  induction n with
  | zero => rfl
  | succ n ih => simp [Sha.sched, ih]
theorem sched_at (b : Nat → UInt8) (n m k : Nat) (hk : k < n) (hn : n ≤ m) : (Sha.sched b m).getD k 0 = (Sha.sched b n).getD k 0 := by
  induction m with
  | zero => omega
  | succ m ih =>
    by_cases h : n = m + 1
    · rw [h]
    · rw [← ih (by omega)]
      have := sched_length b m
      simp only [Sha.sched, List.getD_eq_getElem?_getD]
      rw [List.getElem?_append_left (by omega)]
theorem sched_word (b : Nat → UInt8) (k : Nat) (hk : k < 16) : (Sha.sched b 64).getD k 0 = Sha.word (b (4 * k)) (b (4 * k + 1)) (b (4 * k + 2)) (b (4 * k + 3)) := by
  rw [sched_at b (k + 1) 64 k (by omega) (by omega)]
  have := sched_length b k
  simp only [Sha.sched, List.getD_eq_getElem?_getD, if_pos hk]
  rw [List.getElem?_append_right (by omega)]
  simp [this]
theorem sched_next (b : Nat → UInt8) (k : Nat) (hk : ¬ k < 16) (h64 : k < 64) : (Sha.sched b 64).getD k 0 = (Sha.sched b 64).getD (k - 16) 0 + Sha.s0 ((Sha.sched b 64).getD (k - 15) 0) + (Sha.sched b 64).getD (k - 7) 0 + Sha.s1 ((Sha.sched b 64).getD (k - 2) 0) := by
  rw [sched_at b (k + 1) 64 k (by omega) (by omega), sched_at b k 64 (k - 16) (by omega) (by omega), sched_at b k 64 (k - 15) (by omega) (by omega), sched_at b k 64 (k - 7) (by omega) (by omega), sched_at b k 64 (k - 2) (by omega) (by omega)]
  have := sched_length b k
  simp only [Sha.sched, List.getD_eq_getElem?_getD, if_neg hk]
  rw [List.getElem?_append_right (by omega)]
  simp [this]
set_option maxRecDepth 100000 in
set_option maxHeartbeats 1000000 in
theorem sched_any (b : Nat → UInt8) (w : World) :
    Calls Tryz.prog 129 #[.agg (byteVals b 64)] w fun e w' => e = .returned (.agg (wordVals (fun i => (Sha.sched b 64).getD i 0) 64)) ∧ Below w.heap.size w w' := by
  obtain ⟨l, hl⟩ : ∃ l, l = Sha.sched b 64 := ⟨_, rfl⟩
  rw [← hl]
  have HL := Lib.hid hl
  clear hl
  go_enter Tryz.func129, Tryz.ntmps129
  go_wp2
  go_loopw [11] (fun vi wr => ∃ k : Nat, k ≤ 16 ∧ vi = .int .i64 k ∧ Hid (wr.rowIs w.heap.size 123 64 (fun i => .int .u8 ((b i).toNat : Int))) ∧ Hid (wr.rowIs (w.heap.size + 1) 160 64 (fun _ => .int .u32 0)) ∧ Hid (wr.rowIs (w.heap.size + 1 + 1) 160 64 (wordsTo l k)) ∧ Hid (Bl w.heap.size w wr)) (fun vi _ => 16 - (intOf vi).toNat)
  case atStart =>
    refine ⟨0, Nat.zero_le _, rfl, ((rowIs_bytes w b 123 64).alloc _).alloc _, ?_, ?_, (((Bl.start w).alloc _).alloc _).alloc _⟩
    · have := (rowIs_fill (w.alloc (Obj.cells (byteVals b 64) 123)) _ 160 64 (.int .u32 0) rfl).alloc (Obj.cells (Array.replicate 64 (.int .u32 0)) 160)
      rw [World.size_alloc] at this
      exact this
    · have := rowIs_fill ((w.alloc (Obj.cells (byteVals b 64) 123)).alloc (Obj.cells (Array.replicate 64 (.int .u32 0)) 160)) _ 160 64 (.int .u32 0) rfl
      rw [World.size_alloc, World.size_alloc] at this
      exact this.congr (fun j _ => by simp [wordsTo])
  case round =>
    obtain ⟨k, hk, rfl, hrb, hr1, hr2, hbl⟩ := hrel
    by_cases hlt : k < 16
    · have q0 : wr.cell? ⟨w.heap.size, 4 * k, none⟩ = some (.int .u8 ((b (4 * k)).toNat : Int)) := hrb.out.cell (by omega)
      have q1 : wr.cell? ⟨w.heap.size, 4 * k + 1, none⟩ = some (.int .u8 ((b (4 * k + 1)).toNat : Int)) := hrb.out.cell (by omega)
      have q2 : wr.cell? ⟨w.heap.size, 4 * k + 2, none⟩ = some (.int .u8 ((b (4 * k + 2)).toNat : Int)) := hrb.out.cell (by omega)
      have q3 : wr.cell? ⟨w.heap.size, 4 * k + 3, none⟩ = some (.int .u8 ((b (4 * k + 3)).toNat : Int)) := hrb.out.cell (by omega)
      have q4 : wr.cell? ⟨w.heap.size + 1 + 1, k, none⟩ = some (wordsTo l k k) := hr2.out.cell (by omega)
      have q5 : wr.frozen? ⟨w.heap.size + 1 + 1, k, none⟩ = false := hr2.out.frozen _
      have hsl := slice4 w.heap.size k hlt
      go_wp2
      go_region
      all_goals go_wp2
      all_goals go_roundw
      case rel =>
        refine ⟨k + 1, by omega, by go_num, (hrb.out.setOther (by simp; omega) _).drew, (hr1.out.setOther (by simp) _).drew, ((hr2.out.set _ _).congr (fun j _ => ?_)).drew, (hbl.out.setCell (by simp; omega) _).drew⟩
        refine wordsTo_step l k _ ?_ j
        have m32 : ∀ c : UInt8, (c.toNat : Int) % 4294967296 = (c.toNat : Int) := fun c => by have := c.toNat_lt; omega
        rw [m32, m32, m32, m32, word_nat, HL.out, sched_word b k hlt]
      case measure => simp [intOf]; omega
    · have hk2 : k = 16 := by omega
      subst hk2
      rw [show ((16 : Nat) : Int) = 16 from rfl]
      go_wp2
      go_loopw [6] (fun vi wr => ∃ k : Nat, 16 ≤ k ∧ k ≤ 64 ∧ vi = .int .i64 k ∧ Hid (wr.rowIs (w.heap.size + 1) 160 64 (fun _ => .int .u32 0)) ∧ Hid (wr.rowIs (w.heap.size + 1 + 1) 160 64 (wordsTo l k)) ∧ Hid (Bl w.heap.size w wr)) (fun vi _ => 64 - (intOf vi).toNat)
      case atStart => exact ⟨16, Nat.le_refl _, by omega, rfl, hr1, hr2, hbl⟩
      case round =>
        clear hrb hr1 hr2 hbl
        obtain ⟨k, hk16, hk, rfl, hr1, hr2, hbl⟩ := hrel
        by_cases hlt : k < 64
        · obtain ⟨x, hx⟩ : ∃ x, x = l.getD (k - 15) 0 := ⟨_, rfl⟩
          obtain ⟨y, hy⟩ : ∃ y, y = l.getD (k - 2) 0 := ⟨_, rfl⟩
          obtain ⟨u, hu⟩ : ∃ u, u = l.getD (k - 16) 0 := ⟨_, rfl⟩
          obtain ⟨v, hv⟩ : ∃ v, v = l.getD (k - 7) 0 := ⟨_, rfl⟩
          have q0 : wr.cell? ⟨w.heap.size + 1 + 1, k - 15, none⟩ = some (.int .u32 (x.toNat : Int)) := by rw [hr2.out.cell (by omega), wordsTo, if_pos (by omega), hx]
          have q1 : wr.cell? ⟨w.heap.size + 1 + 1, k - 2, none⟩ = some (.int .u32 (y.toNat : Int)) := by rw [hr2.out.cell (by omega), wordsTo, if_pos (by omega), hy]
          have q2 : wr.cell? ⟨w.heap.size + 1 + 1, k - 16, none⟩ = some (.int .u32 (u.toNat : Int)) := by rw [hr2.out.cell (by omega), wordsTo, if_pos (by omega), hu]
          have q3 : wr.cell? ⟨w.heap.size + 1 + 1, k - 7, none⟩ = some (.int .u32 (v.toNat : Int)) := by rw [hr2.out.cell (by omega), wordsTo, if_pos (by omega), hv]
          have q4 : wr.cell? ⟨w.heap.size + 1 + 1, k, none⟩ = some (wordsTo l k k) := hr2.out.cell (by omega)
          have q5 : wr.frozen? ⟨w.heap.size + 1 + 1, k, none⟩ = false := hr2.out.frozen _
          have HK : Hid (l.getD k 0 = u + Sha.s0 x + v + Sha.s1 y) := by
            have := sched_next b k (by omega) hlt
            rw [← HL.out, ← hx, ← hy, ← hu, ← hv] at this
            exact this
          have n15 : ((k : Int) - 15).toNat = k - 15 := by omega
          have n2 : ((k : Int) - 2).toNat = k - 2 := by omega
          have n16 : ((k : Int) - 16).toNat = k - 16 := by omega
          have n7 : ((k : Int) - 7).toNat = k - 7 := by omega
          have p15 : 0 ≤ (k : Int) - 15 := by omega
          have p2 : 0 ≤ (k : Int) - 2 := by omega
          have p16 : 0 ≤ (k : Int) - 16 := by omega
          have p7 : 0 ≤ (k : Int) - 7 := by omega
          have r15 : (k : Int) - 15 < 64 := by omega
          have r2 : (k : Int) - 2 < 64 := by omega
          have r16 : (k : Int) - 16 < 64 := by omega
          have r7 : (k : Int) - 7 < 64 := by omega
          clear hx hy hu hv
          go_wp2
          go_quiet (fail)
          go_wp2_with fail
          refine (rot7 _ _).mono ?_
          rintro e w' ⟨rfl, rfl⟩
          go_wp2_with fail
          refine (rot18 _ _).mono ?_
          rintro e w' ⟨rfl, rfl⟩
          go_wp2_with fail
          refine (rot17 _ _).mono ?_
          rintro e w' ⟨rfl, rfl⟩
          go_wp2_with fail
          refine (rot19 _ _).mono ?_
          rintro e w' ⟨rfl, rfl⟩
          go_wp2_with fail
          go_region
          all_goals go_wp2
          all_goals go_roundw
          case rel =>
            refine ⟨k + 1, by omega, by omega, by go_num, (hr1.out.setOther (by simp) _), ((hr2.out.set _ _).congr (fun j _ => ?_)), (hbl.out.setCell (by simp; omega) _).drewN _⟩
            refine wordsTo_step l k _ ?_ j
            rw [HK.out]
            rw [s0_nat, s1_nat, add4_nat]
          case measure => simp [intOf]; omega
        · have hk2 : k = 64 := by omega
          subst hk2
          rw [show ((64 : Nat) : Int) = 64 from rfl]
          have g1 := rowIs_arr hr1.out
          have g2 := rowIs_arr (hr2.out.congr (g := fun i => .int .u32 ((l.getD i 0).toNat : Int)) (fun j hj => by simp [wordsTo, hj]))
          have G1 := Lib.hid g1
          have G2 := Lib.hid g2
          clear g1 g2
          go_wp2_with (first | (with_reducible refine wpList_load_row rfl 160 _ rfl (w.heap.size + 1 + 1) rfl 160 _ (0, 0) _ G2.out Tryz.underlying160 rfl (by rw [List.size_toArray, List.length_map, List.length_range]; kernel_rfl) ?_) | (with_reducible refine wpList_store_row rfl 160 _ _ rfl (w.heap.size + 1) _ rfl rfl 160 _ G1.out (by rw [List.size_toArray, List.length_map, List.length_range]; kernel_rfl) (by simp) (by simp [Value.oneCell']) ?_))
          refine bodyPost_ret (v := .agg (wordVals (fun i => l.getD i 0) 64)) (results_cell_row rfl _ _ (w.heap.size + 1) 160 _ (0, 0) _ rfl (heap_setRow _ _ _ _ _ _ G1.out) Tryz.underlying160 rfl (by rw [size_wordVals]; kernel_rfl)) rfl ⟨rfl, (hbl.out.setRow (by omega) _).1⟩
end Go.Proofs.YtfeonjiiijdibaaGreatDoor
namespace Go.Proofs.Sha
def start : List UInt32 := [1779033703, 3144134277, 1013904242, 2773480762, 1359893119, 2600822924, 528734635, 1541459225]
def added : List UInt32 := [1116352408, 1899447441, 3049323471, 3921009573, 961987163, 1508970993, 2453635748, 2870763221, 3624381080, 310598401, 607225278, 1426881987, 1925078388, 2162078206, 2614888103, 3248222580, 3835390401, 4022224774, 264347078, 604807628, 770255983, 1249150122, 1555081692, 1996064986, 2554220882, 2821834349, 2952996808, 3210313671, 3336571891, 3584528711, 113926993, 338241895, 666307205, 773529912, 1294757372, 1396182291, 1695183700, 1986661051, 2177026350, 2456956037, 2730485921, 2820302411, 3259730800, 3345764771, 3516065817, 3600352804, 4094571909, 275423344, 430227734, 506948616, 659060556, 883997877, 958139571, 1322822218, 1537002063, 1747873779, 1955562222, 2024104815, 2227730452, 2361852424, 2428436474, 2756734187, 3204031479, 3329325298]
/-- The eight variables of a round. -/
structure St where
  a : UInt32
  b : UInt32
  c : UInt32
  d : UInt32
  e : UInt32
  f : UInt32
  g : UInt32
  h : UInt32
def t1 (s : St) (k x : UInt32) : UInt32 := s.h + (rotr s.e 6 ^^^ rotr s.e 11 ^^^ rotr s.e 25) + ((s.e &&& s.f) ^^^ (~~~s.e &&& s.g)) + k + x
def t2 (s : St) : UInt32 := (rotr s.a 2 ^^^ rotr s.a 13 ^^^ rotr s.a 22) + ((s.a &&& s.b) ^^^ (s.a &&& s.c) ^^^ (s.b &&& s.c))
def step (s : St) (k x : UInt32) : St := ⟨t1 s k x + t2 s, s.a, s.b, s.c, s.d + t1 s k x, s.e, s.f, s.g⟩
def rounds (l : List UInt32) (s : St) : Nat → St
  | 0 => s
  | n + 1 => step (rounds l s n) (added.getD n 0) (l.getD n 0)
def ofWords (ws : Nat → UInt32) : St := ⟨ws 0, ws 1, ws 2, ws 3, ws 4, ws 5, ws 6, ws 7⟩
def St.at (s : St) : Nat → UInt32
  | 0 => s.a
  | 1 => s.b
  | 2 => s.c
  | 3 => s.d
  | 4 => s.e
  | 5 => s.f
  | 6 => s.g
  | _ => s.h
/-- The words behind a block. -/
def compress (ws : Nat → UInt32) (b : Nat → UInt8) : Nat → UInt32 := fun i => ws i + (rounds (sched b 64) (ofWords ws) 64).at i
end Go.Proofs.Sha
namespace Go.Proofs.YtfeonjiiijdibaaGreatDoor
open Go.RowKit
/-- The two tables lie where they are laid. -/
def Laid (w : World) : Prop := (∃ t fr, w.heap[0]? = some (.cells (wordVals (fun i => Sha.start.getD i 0) 8) t fr)) ∧ (∃ t fr, w.heap[1]? = some (.cells (wordVals (fun i => Sha.added.getD i 0) 64) t fr))
/-- A hash's cells. -/
def hashF (ws : Nat → UInt32) (b : Nat → UInt8) (used : Nat) (all : UInt64) (i : Nat) : Value :=
  if i < 8 then .int .u32 ((ws i).toNat : Int) else if i < 72 then .int .u8 ((b (i - 8)).toNat : Int) else if i = 72 then .int .i64 (used : Int) else .int .u64 (all.toNat : Int)
/-- The value of an array at an index. -/
theorem index_words (t e : TypeId) (n : Nat) (f : Nat → UInt32) (h : Tryz.prog.underlying t = some (.array n e)) (hs : ∀ w, (sizeOf e).run Tryz.prog w = .ok 1 w) (ha : ∀ w, (isAgg e).run Tryz.prog w = .ok false w) (i : Nat) (hi : i < n) (w : World) :
    (Instr.index t (.agg (wordVals f n)) (.int .i64 (i : Int))).run Tryz.prog w = .ok (.int .u32 ((f i).toNat : Int)) w := by
  unfold Instr.index
  simp only [asIntOf, Sem.run_bind, Sem.run_pure, Result.andThen_ok, run_underlying h]
  rw [if_pos (by omega)]
  simp only [Sem.run_bind, hs, Result.andThen_ok, part, ha, Nat.mul_one, Int.toNat_natCast]
  simp [wordVals, hi]
theorem range_block (g : Nat) (t : TypeId) (ws : Nat → UInt32) (b : Nat → UInt8) (u : Nat) (all : UInt64) (w : World) (hr : w.rowIs g t 74 (hashF ws b u all)) : w.rangeAt g 8 ((List.range 64).map fun i => Value.int .u8 ((b i).toNat : Int)) := by
  intro j v hj
  have hlt : j < 64 := by
    rcases Nat.lt_or_ge j 64 with h | h
    · exact h
    · rw [List.getElem?_eq_none (by simpa using h)] at hj; cases hj
  rw [hr.cell (by omega)]
  simp [hlt] at hj
  subst hj
  unfold hashF
  rw [if_neg (by omega), if_pos (by omega)]
  simp
theorem not_nat (x : UInt32) : bits BinOp.xor IntKind.u32 IntKind.u32.max (x.toNat : Int) = ((~~~x).toNat : Int) := by
  have e : (IntKind.u32.max : Int) = ((4294967295 : UInt32).toNat : Int) := by decide
  have f : (~~~x) = (4294967295 : UInt32) ^^^ x := by
    apply UInt32.eq_of_toBitVec_eq
    show ~~~x.toBitVec = (4294967295 : UInt32).toBitVec ^^^ x.toBitVec
    rw [BitVec.not_def]
    rfl
  rw [e, Sha.xor_nat, f]
theorem t1_nat (s : Sha.St) (k x : UInt32) : ((s.h.toNat : Int) + bits BinOp.xor IntKind.u32 (bits BinOp.xor IntKind.u32 ((Sha.rotr s.e 6).toNat : Int) ((Sha.rotr s.e 11).toNat : Int)) ((Sha.rotr s.e 25).toNat : Int) + bits BinOp.xor IntKind.u32 (bits BinOp.and IntKind.u32 (s.e.toNat : Int) (s.f.toNat : Int)) (bits BinOp.and IntKind.u32 (bits BinOp.xor IntKind.u32 IntKind.u32.max (s.e.toNat : Int)) (s.g.toNat : Int)) + (k.toNat : Int) + (x.toNat : Int)) % 4294967296 = ((Sha.t1 s k x).toNat : Int) := by
  rw [not_nat, Sha.xor_nat, Sha.xor_nat, Sha.and_nat, Sha.and_nat, Sha.xor_nat, Sha.t1]
  rw [UInt32.toNat_add, UInt32.toNat_add, UInt32.toNat_add, UInt32.toNat_add]
  omega
theorem t2_nat (s : Sha.St) : (bits BinOp.xor IntKind.u32 (bits BinOp.xor IntKind.u32 ((Sha.rotr s.a 2).toNat : Int) ((Sha.rotr s.a 13).toNat : Int)) ((Sha.rotr s.a 22).toNat : Int) + bits BinOp.xor IntKind.u32 (bits BinOp.xor IntKind.u32 (bits BinOp.and IntKind.u32 (s.a.toNat : Int) (s.b.toNat : Int)) (bits BinOp.and IntKind.u32 (s.a.toNat : Int) (s.c.toNat : Int))) (bits BinOp.and IntKind.u32 (s.b.toNat : Int) (s.c.toNat : Int))) % 4294967296 = ((Sha.t2 s).toNat : Int) := by
  rw [Sha.xor_nat, Sha.xor_nat, Sha.and_nat, Sha.and_nat, Sha.and_nat, Sha.xor_nat, Sha.xor_nat, Sha.add_nat, Sha.t2]
set_option maxRecDepth 100000 in
set_option maxHeartbeats 1000000 in
theorem turn_any (g : Nat) (ws : Nat → UInt32) (b : Nat → UInt8) (u : Nat) (all : UInt64) (w : World) (hl : Laid w) (hg1 : 1 < g) (hr : w.rowIs g 126 74 (hashF ws b u all)) :
    Calls Tryz.prog 93 #[.pointer (some ⟨g, 0, none⟩)] w fun e w' => e = .returned (.tuple #[]) ∧ w'.rowIs g 126 74 (hashF (Sha.compress ws b) b 0 all) ∧ w.grownBy w' (some g) := by
  have c72 : w.cell? ⟨g, 72, none⟩ = some (.int .i64 (u : Int)) := hr.cell (by omega)
  have z72 : w.frozen? ⟨g, 72, none⟩ = false := hr.frozen _
  have hr1 : (w.setCell ⟨g, 72, none⟩ (.int .i64 0)).rowIs g 126 74 (hashF ws b 0 all) := (hr.set 72 _).congr (fun j hj => by
    by_cases h : j = 72
    · subst h; simp [hashF]
    · rw [if_neg h]; unfold hashF; simp [h])
  have HR1 := Lib.hid hr1
  have HL := Lib.hid hl
  have HG : Hid (w.grownBy (w.setCell ⟨g, 72, none⟩ (.int .i64 0)) (some g)) := by
    have : w.grownBy (w.setCell ⟨g, 72, none⟩ (.int .i64 0)) (some g) := ⟨rfl, rfl, rfl, by simp, fun i hi hne => by
      rw [heap_setCell_other _ _ _ _ (by simp at hne ⊢; omega)]⟩
    exact this
  clear hr hr1 hl
  go_enter Tryz.func93, Tryz.ntmps93
  obtain ⟨f, hff⟩ : ∃ f : Nat → UInt32, f = fun i => (Sha.sched b 64).getD i 0 := ⟨_, rfl⟩
  have HFF := Lib.hid hff
  clear hff
  go_wp2_with (with_reducible refine wpList_load_mid rfl 123 _ rfl g 8 rfl ((List.range 64).map fun i => Value.int .u8 ((b i).toNat : Int)) _ (range_block g _ ws b 0 all _ HR1.out) Tryz.underlying123 rfl (by rw [List.length_map, List.length_range]; kernel_rfl) ?_)
  refine (sched_any b _).mono ?_
  rintro e w1 ⟨rfl, hb1⟩
  rw [← HFF.out]
  go_wp2_with (with_reducible refine wpList_store_row rfl 160 _ _ rfl w1.heap.size _ rfl rfl 160 _ (heap_alloc_last _ _) (by rw [size_wordVals]; kernel_rfl) (by simp [size_wordVals]) (by simp [wordVals, Value.oneCell']) ?_)
  rw [World.setRow_alloc_new]
  obtain ⟨W, hW⟩ : ∃ W, W = w1.alloc (Obj.cells (wordVals f 64) 160) := ⟨_, rfl⟩
  have hgs : g < (w.setCell ⟨g, 72, none⟩ (.int .i64 0)).heap.size := HR1.out.lt
  have hgs1 : g < w1.heap.size := Nat.lt_of_lt_of_le hgs hb1.size
  have hrg : W.rowIs g 126 74 (hashF ws b 0 all) := by
    rw [hW]
    exact (HR1.out.of_block (hb1.block g hgs)).alloc _
  have hrl : W.rowIs w1.heap.size 160 64 (fun i => .int .u32 ((f i).toNat : Int)) := by
    rw [hW]
    exact rowIs_of (heap_alloc_last w1 _)
  have hgr : w.grownBy W (some g) := by
    rw [hW]
    refine HG.out.trans ⟨?_, ?_, ?_, ?_, ?_⟩
    · exact hb1.os
    · exact hb1.tape
    · exact hb1.output
    · have := hb1.size; simp at this ⊢; omega
    · intro k hk hne
      rw [Below.heap_alloc _ _ _ (Nat.lt_of_lt_of_le (by simpa using hk) hb1.size), hb1.block k (by simpa using hk)]
  have hla : Laid W := by
    obtain ⟨⟨t0, f0, e0⟩, ⟨t1, f1, e1⟩⟩ := HL.out
    have b0 := (Array.getElem?_eq_some_iff.1 e0).1
    have b1 := (Array.getElem?_eq_some_iff.1 e1).1
    exact ⟨⟨t0, f0, by rw [hgr.block 0 b0 (by simp; omega)]; exact e0⟩, ⟨t1, f1, by rw [hgr.block 1 b1 (by simp; omega)]; exact e1⟩⟩
  rw [← hW]
  have hB : w1.heap.size ≠ g := by omega
  generalize w1.heap.size = B at hrl hB ⊢
  clear hW hb1 hgs hgs1 HR1 HG c72 z72 HL
  have q0 : W.cell? ⟨g, 0, none⟩ = some (.int .u32 ((ws 0).toNat : Int)) := hrg.cell (by omega)
  have q1 : W.cell? ⟨g, 1, none⟩ = some (.int .u32 ((ws 1).toNat : Int)) := hrg.cell (by omega)
  have q2 : W.cell? ⟨g, 2, none⟩ = some (.int .u32 ((ws 2).toNat : Int)) := hrg.cell (by omega)
  have q3 : W.cell? ⟨g, 3, none⟩ = some (.int .u32 ((ws 3).toNat : Int)) := hrg.cell (by omega)
  have q4 : W.cell? ⟨g, 4, none⟩ = some (.int .u32 ((ws 4).toNat : Int)) := hrg.cell (by omega)
  have q5 : W.cell? ⟨g, 5, none⟩ = some (.int .u32 ((ws 5).toNat : Int)) := hrg.cell (by omega)
  have q6 : W.cell? ⟨g, 6, none⟩ = some (.int .u32 ((ws 6).toNat : Int)) := hrg.cell (by omega)
  have q7 : W.cell? ⟨g, 7, none⟩ = some (.int .u32 ((ws 7).toNat : Int)) := hrg.cell (by omega)
  have HRG := Lib.hid hrg
  have HRL := Lib.hid hrl
  have HGR := Lib.hid hgr
  obtain ⟨k1, hkk⟩ : ∃ k1 : Nat → UInt32, k1 = fun i => Sha.added.getD i 0 := ⟨_, rfl⟩
  obtain ⟨_, t1, f1, hk1⟩ := hla
  rw [← hkk] at hk1
  have HKK := Lib.hid hkk
  clear hkk
  have HK1 := Lib.hid hk1
  clear hrg hrl hgr hk1
  go_quiet (fail)
  go_wp2_with fail
  go_quiet (fail)
  go_wp2_with (refine wpList_load_row rfl 160 (.global 1) rfl 1 rfl t1 _ f1 _ HK1.out Tryz.underlying160 rfl (by rw [size_wordVals]; kernel_rfl) ?_)
  have len89 : Tryz.prog.underlying 160 = some (.array 64 107) := by kernel_rfl
  have HIX : Hid (∀ (k : Nat), k < 64 → ∀ w : World, (Instr.index 160 (.agg (wordVals k1 64)) (.int .i64 (k : Int))).run Tryz.prog w = .ok (.int .u32 ((k1 k).toNat : Int)) w) := fun k hk w => index_words 160 107 64 k1 len89 (fun _ => by kernel_rfl) (fun _ => by kernel_rfl) k hk w
  clear len89 q0 q1 q2 q3 q4 q5 q6 q7
  go_loopw [3, 4, 5, 6, 7, 8, 9, 10, 66] (fun v3 v4 v5 v6 v7 v8 v9 v10 vi wr => ∃ (k : Nat) (s : Sha.St), k ≤ 64 ∧ vi = .int .i64 k ∧ v3 = .int .u32 (s.a.toNat : Int) ∧ v4 = .int .u32 (s.b.toNat : Int) ∧ v5 = .int .u32 (s.c.toNat : Int) ∧ v6 = .int .u32 (s.d.toNat : Int) ∧ v7 = .int .u32 (s.e.toNat : Int) ∧ v8 = .int .u32 (s.f.toNat : Int) ∧ v9 = .int .u32 (s.g.toNat : Int) ∧ v10 = .int .u32 (s.h.toNat : Int) ∧ Hid (s = Sha.rounds (Sha.sched b 64) (Sha.ofWords ws) k) ∧ Hid (∃ q, wr = W.drewN q)) (fun _ _ _ _ _ _ _ _ vi _ => 64 - (intOf vi).toNat)
  case atStart => exact ⟨0, Sha.ofWords ws, Nat.zero_le _, rfl, rfl, rfl, rfl, rfl, rfl, rfl, rfl, rfl, rfl, ⟨_, rfl⟩⟩
  case round =>
    obtain ⟨k, s, hk, rfl, rfl, rfl, rfl, rfl, rfl, rfl, rfl, rfl, HS, q, rfl⟩ := hrel
    by_cases hlt : k < 64
    · have hix := HIX.out k hlt
      have hw : W.cell? ⟨B, k, none⟩ = some (.int .u32 ((f k).toNat : Int)) := HRL.out.cell hlt
      go_wp2_with fail
      go_quiet (first | (go_at_call_of 130 (Value.int IntKind.i64 6); exact quietly_same (rot6 _ _)) | (go_at_call_of 130 (Value.int IntKind.i64 11); exact quietly_same (rot11 _ _)) | (go_at_call_of 130 (Value.int IntKind.i64 25); exact quietly_same (rot25 _ _)))
      go_wp2_with fail
      refine (rot2 _ _).mono ?_
      rintro e w' ⟨rfl, rfl⟩
      go_wp2_with fail
      refine (rot13 _ _).mono ?_
      rintro e w' ⟨rfl, rfl⟩
      go_wp2_with fail
      refine (rot22 _ _).mono ?_
      rintro e w' ⟨rfl, rfl⟩
      go_wp2_with fail
      go_roundw
      case rel =>
        refine ⟨k + 1, Sha.step s (k1 k) (f k), by omega, by go_num, ?_, rfl, rfl, rfl, ?_, rfl, rfl, rfl, ?_, ⟨_, rfl⟩⟩
        · show Value.int .u32 _ = Value.int .u32 (((Sha.t1 s (k1 k) (f k) + Sha.t2 s).toNat : Nat) : Int)
          rw [t1_nat, t2_nat, Sha.add_nat]
        · show Value.int .u32 _ = Value.int .u32 (((s.d + Sha.t1 s (k1 k) (f k)).toNat : Nat) : Int)
          rw [t1_nat, Sha.add_nat]
        · show Sha.step s (k1 k) (f k) = _
          rw [Sha.rounds, ← HS.out, HKK.out, HFF.out]
      case measure => simp [intOf]; omega
    · have hk2 : k = 64 := by omega
      subst hk2
      rw [show ((64 : Nat) : Int) = 64 from rfl]
      go_wp2_with fail
      have len65 : Tryz.prog.underlying 122 = some (.array 8 107) := by kernel_rfl
      have HIX8 : Hid (∀ (k : Nat), k < 8 → ∀ w : World, (Instr.index 122 (.agg #[.int .u32 (s.a.toNat : Int), .int .u32 (s.b.toNat : Int), .int .u32 (s.c.toNat : Int), .int .u32 (s.d.toNat : Int), .int .u32 (s.e.toNat : Int), .int .u32 (s.f.toNat : Int), .int .u32 (s.g.toNat : Int), .int .u32 (s.h.toNat : Int)]) (.int .i64 (k : Int))).run Tryz.prog w = .ok (.int .u32 ((s.at k).toNat : Int)) w) := fun k hk w => index_words 122 107 8 s.at len65 (fun _ => by kernel_rfl) (fun _ => by kernel_rfl) k hk w
      clear len65
      go_loopw [137] (fun vi wr => ∃ (k : Nat), k ≤ 8 ∧ vi = .int .i64 k ∧ Hid (wr.rowIs g 126 74 (hashF (fun i => if i < k then Sha.compress ws b i else ws i) b 0 all)) ∧ Hid (w.grownBy wr (some g))) (fun vi _ => 8 - (intOf vi).toNat)
      case atStart => exact ⟨0, Nat.zero_le _, rfl, HRG.out, HGR.out.trans ⟨rfl, rfl, rfl, Nat.le_refl _, fun _ _ _ => rfl⟩⟩
      case round =>
        obtain ⟨k, hk, rfl, hrg, hgr⟩ := hrel
        by_cases hlt : k < 8
        · have hix := HIX8.out k hlt
          obtain ⟨x, hx⟩ : ∃ x, x = ws k := ⟨_, rfl⟩
          have hc : wr.cell? ⟨g, k, none⟩ = some (.int .u32 (x.toNat : Int)) := by
            rw [hrg.out.cell (by omega), hashF, if_pos hlt, if_neg (Nat.lt_irrefl _), hx]
          have hz : wr.frozen? ⟨g, k, none⟩ = false := hrg.out.frozen _
          have HX := Lib.hid hx
          clear hx
          go_wp2_with fail
          go_region
          all_goals go_wp2_with fail
          all_goals go_roundw
          case rel =>
            refine ⟨k + 1, by omega, by go_num, ((hrg.out.set _ _).congr (fun j hj => ?_)).drew, ?_⟩
            · rw [Sha.add_nat]
              unfold hashF
              by_cases hjk : j = k
              · subst hjk
                rw [if_pos rfl, if_pos hlt]
                show _ = Value.int .u32 (((if j < j + 1 then Sha.compress ws b j else ws j).toNat : Nat) : Int)
                rw [if_pos (Nat.lt_succ_self _), Sha.compress, ← HS.out, HX.out]
              · rw [if_neg hjk]
                by_cases h8 : j < 8
                · rw [if_pos h8, if_pos h8]
                  show Value.int .u32 (((if j < k then Sha.compress ws b j else ws j).toNat : Nat) : Int) = Value.int .u32 (((if j < k + 1 then Sha.compress ws b j else ws j).toNat : Nat) : Int)
                  by_cases h : j < k
                  · rw [if_pos h, if_pos (by omega)]
                  · rw [if_neg h, if_neg (by omega)]
                · rw [if_neg h8, if_neg h8]
            · exact hgr.out.trans ⟨rfl, rfl, rfl, by simp, fun i hi hne => by
                show (wr.setCell _ _).heap[i]? = _
                rw [heap_setCell_other _ _ _ _ (by simp at hne ⊢; omega)]⟩
          case measure => simp [intOf]; omega
        · have hk2 : k = 8 := by omega
          subst hk2
          go_wp2_with fail
          go_end0
          refine ⟨rfl, hrg.out.congr (fun j hj => ?_), hgr.out⟩
          unfold hashF
          by_cases h8 : j < 8
          · rw [if_pos h8, if_pos h8]
            show Value.int .u32 (((if j < 8 then Sha.compress ws b j else ws j).toNat : Nat) : Int) = _
            rw [if_pos h8]
          · rw [if_neg h8, if_neg h8]
end Go.Proofs.YtfeonjiiijdibaaGreatDoor
namespace Go.Proofs.Sha
def blockOf (m : List UInt8) (q : Nat) : Nat → UInt8 := fun i => m.getD (64 * q + i) 0
/-- The words behind the first q blocks. -/
def wordsN (m : List UInt8) : Nat → Nat → UInt32
  | 0 => fun i => start.getD i 0
  | q + 1 => compress (wordsN m q) (blockOf m q)
def wordsOf (m : List UInt8) : Nat → UInt32 := wordsN m (m.length / 64)
theorem sched_congr (b b' : Nat → UInt8) (h : ∀ i, i < 64 → b i = b' i) (n : Nat) (hn : n ≤ 64) : sched b n = sched b' n := by
  induction n with
  | zero => rfl
  | succ n ih =>
    have := ih (by omega)
    simp only [sched, this]
    by_cases h16 : n < 16
    · rw [if_pos h16, if_pos h16, h _ (by omega), h _ (by omega), h _ (by omega), h _ (by omega)]
    · rw [if_neg h16, if_neg h16]
theorem compress_congr (ws : Nat → UInt32) (b b' : Nat → UInt8) (h : ∀ i, i < 64 → b i = b' i) : compress ws b = compress ws b' := by
  unfold compress
  rw [sched_congr b b' h 64 (Nat.le_refl _)]
theorem getD_left (m s : List UInt8) (i : Nat) (h : i < m.length) : (m ++ s).getD i 0 = m.getD i 0 := by
  simp only [List.getD_eq_getElem?_getD]
  rw [List.getElem?_append_left h]
theorem getD_right (m s : List UInt8) (i : Nat) (h : m.length ≤ i) : (m ++ s).getD i 0 = s.getD (i - m.length) 0 := by
  simp only [List.getD_eq_getElem?_getD]
  rw [List.getElem?_append_right h]
theorem wordsN_append (m s : List UInt8) (q : Nat) (h : 64 * q ≤ m.length) : wordsN (m ++ s) q = wordsN m q := by
  induction q with
  | zero => rfl
  | succ q ih =>
    rw [wordsN, wordsN, ih (by omega)]
    refine compress_congr _ _ _ (fun i hi => ?_)
    exact getD_left m s _ (by omega)
/-- A block that is not yet whole. -/
def Tail (m : List UInt8) (b : Nat → UInt8) : Prop := ∀ i, i < m.length % 64 → b i = m.getD (64 * (m.length / 64) + i) 0
/-- Bytes laid behind the tail. -/
def lay (b : Nat → UInt8) (u : Nat) (t : List UInt8) : Nat → UInt8 := fun i => if u ≤ i ∧ i < u + t.length then t.getD (i - u) 0 else b i
theorem lay_at (m t : List UInt8) (b : Nat → UInt8) (hb : Tail m b) (i : Nat) (hi : i < m.length % 64 + t.length) : lay b (m.length % 64) t i = (m ++ t).getD (64 * (m.length / 64) + i) 0 := by
  unfold lay
  by_cases h : m.length % 64 ≤ i
  · rw [if_pos ⟨h, hi⟩, getD_right _ _ _ (by omega)]
    congr 1; omega
  · rw [if_neg (fun hh => h hh.1), getD_left _ _ _ (by omega), hb i (by omega)]
theorem tail_part (m t : List UInt8) (b : Nat → UInt8) (hb : Tail m b) (h : m.length % 64 + t.length < 64) : Tail (m ++ t) (lay b (m.length % 64) t) ∧ wordsOf (m ++ t) = wordsOf m ∧ (m ++ t).length % 64 = m.length % 64 + t.length := by
  have e1 : (m ++ t).length % 64 = m.length % 64 + t.length := by rw [List.length_append]; omega
  have e2 : (m ++ t).length / 64 = m.length / 64 := by rw [List.length_append]; omega
  refine ⟨fun i hi => ?_, ?_, e1⟩
  · rw [e1] at hi
    rw [e2, lay_at m t b hb i hi]
  · unfold wordsOf
    rw [e2, wordsN_append _ _ _ (by omega)]
theorem tail_whole (m t : List UInt8) (b : Nat → UInt8) (hb : Tail m b) (h : m.length % 64 + t.length = 64) : wordsOf (m ++ t) = compress (wordsOf m) (lay b (m.length % 64) t) ∧ (m ++ t).length % 64 = 0 := by
  have e1 : (m ++ t).length % 64 = 0 := by rw [List.length_append]; omega
  have e2 : (m ++ t).length / 64 = m.length / 64 + 1 := by rw [List.length_append]; omega
  refine ⟨?_, e1⟩
  unfold wordsOf
  rw [e2, wordsN, wordsN_append _ _ _ (by omega)]
  exact compress_congr _ _ _ (fun i hi => (lay_at m t b hb i (by omega)).symm)
end Go.Proofs.Sha
namespace Go.Proofs.YtfeonjiiijdibaaGreatDoor
open Go.RowKit
/-- What a world holds of a hash: what was written, and how many bytes it says. -/
def Hs (g : Nat) (m : List UInt8) (all : UInt64) (w : World) : Prop := ∃ b, w.rowIs g 126 74 (hashF (Sha.wordsOf m) b (m.length % 64) all) ∧ Sha.Tail m b
theorem Laid.grown {w w' : World} (h : Laid w) {g : Nat} (hg : 1 < g) (hw : w.grownBy w' (some g)) : Laid w' := by
  obtain ⟨⟨t0, f0, e0⟩, ⟨t1, f1, e1⟩⟩ := h
  have b0 := (Array.getElem?_eq_some_iff.1 e0).1
  have b1 := (Array.getElem?_eq_some_iff.1 e1).1
  exact ⟨⟨t0, f0, by rw [hw.block 0 b0 (by simp; omega)]; exact e0⟩, ⟨t1, f1, by rw [hw.block 1 b1 (by simp; omega)]; exact e1⟩⟩
/-- 'copy(dst, s)' of a string: as many bytes as there is room for. -/
theorem run_copy_str (w : World) (dT sT ty elem : TypeId) (b o dLen dCap n : Nat) (t : ByteArray) (hn : n = min t.size dLen)
    (hu : Tryz.prog.underlying dT = some (.slice elem)) (hz : ∀ w, (Go.sizeOf elem).run Tryz.prog w = .ok 1 w)
    (hc : ∀ j, j < n → (w.cell? ⟨b, o + j, none⟩).isSome = true) (hf : ∀ j, j < n → w.frozen? ⟨b, o + j, none⟩ = false) :
    (Builtin.copy_ #[dT, sT] ty #[.slice (some ⟨b, o, none⟩) dLen dCap, .string t]).run Tryz.prog w = .ok (goInt n) (w.setCells b o ((t.data.toList.take n).map fun x => Value.int .u8 (x.toNat : Int))) := by
  have hl : ((t.data.toList.take n).map fun x => Value.int .u8 (x.toNat : Int)).length = n := by rw [List.length_map, List.length_take, ← Lib.size_eq]; omega
  have hst := run_storeCells_cells (P := Tryz.prog) b o ((t.data.toList.take n).map fun x => Value.int .u8 (x.toNat : Int)) 0 w (by rw [hl]; simpa using hc) (by rw [hl]; simpa using hf) (by
    intro v hv
    obtain ⟨x, _, rfl⟩ := List.mem_map.1 hv
    rfl)
  have hmin : Nat.min t.size dLen = n := hn.symm
  simp [Builtin.copy_, run_underlying hu, Builtin.lenOf, Builtin.firstCells, hz, hmin]
  rw [← List.map_take, hst]
  rfl
theorem wpList_copy_str {ops : Array Oper} {rest : List Oper} {o : Oper} {a : Act} {w : World} {Q : Exit → Act → World → Prop} (hg : o.guard = none) (d x : Operand) (dT sT : TypeId)
    (hop : o.op = Op.call { callee := Callee.builtin Builtin.copy, args := #[d, x], argTypes := #[dT, sT] }) (elem : TypeId) (hu : Tryz.prog.underlying dT = some (.slice elem)) (hz : ∀ w, (Go.sizeOf elem).run Tryz.prog w = .ok 1 w)
    (b off dLen dCap : Nat) (hd : a.eval d = .slice (some ⟨b, off, none⟩) dLen dCap) (t : ByteArray) (hx : a.eval x = .string t) (n : Nat) (hn : n = min t.size dLen)
    (hc : ∀ j, j < n → (w.cell? ⟨b, off + j, none⟩).isSome = true) (hf : ∀ j, j < n → w.frozen? ⟨b, off + j, none⟩ = false)
    (hK : wpList Tryz.prog ops Q rest (a.put o.dst (goInt n)) (w.setCells b off ((t.data.toList.take n).map fun x => Value.int .u8 (x.toNat : Int)))) : wpList Tryz.prog ops Q (o :: rest) a w := by
  refine wpList_plain hg fun K hK' => ?_
  have hrun := run_copy_str w dT sT o.type elem b off dLen dCap n t hn hu hz hc hf
  unfold Oper.wp
  simp [execOp, hop, resolve, invoke, builtin, hd, hx, hrun, Result.andThen]
  rw [← List.map_take]
  exact hK' _ _ hK
theorem slice_from_at (g u : Nat) (hu : u < 64) (W : World) : (Instr.sliceAt 123 (.pointer (some ⟨g, 8, none⟩)) (some (.int .i64 (u : Int))) none none).run Tryz.prog W = .ok (.slice (some ⟨g, 8 + u, none⟩) (64 - u) (64 - u)) W := by
  rw [run_sliceAt_array_l W 123 _ arr66 .i64 _ (by omega) (by rw [len66]; omega), elem66, len66]
  simp only [Result.andThen, slicedAt]
  rw [Int.toNat_natCast, if_neg (by omega)]
  simp [Addr.add]
theorem grown_cells {w : World} (g : Nat) : ∀ (vs : List Value) (o : Nat) (w' : World), w.grownBy w' (some g) → w.grownBy (w'.setCells g o vs) (some g)
  | [], _, _, h => h
  | v :: r, o, w', h => grown_cells g r (o + 1) _ (h.trans ⟨rfl, rfl, rfl, by simp, fun i hi hne => by
      rw [heap_setCell_other _ _ _ _ (by simp at hne ⊢; omega)]⟩)
theorem grown_cell {w w' : World} {g : Nat} (h : w.grownBy w' (some g)) (o : Nat) (v : Value) : w.grownBy (w'.setCell ⟨g, o, none⟩ v) (some g) := grown_cells g [v] o w' h
/-- A hash's cells behind bytes that were laid. -/
theorem hash_lay {w : World} {g : Nat} {t : TypeId} {ws : Nat → UInt32} {b : Nat → UInt8} {u : Nat} {all : UInt64} (h : w.rowIs g t 74 (hashF ws b u all)) (k : Nat) (l : List UInt8) (hl : k + l.length ≤ 64) :
    (w.setCells g (8 + k) (l.map fun x => Value.int .u8 (x.toNat : Int))).rowIs g t 74 (hashF ws (Sha.lay b k l) u all) := by
  refine (rowIs_setCells _ _ _ _ h).congr (fun j hj => ?_)
  rw [List.length_map]
  by_cases h1 : 8 + k ≤ j ∧ j < 8 + k + l.length
  · rw [if_pos h1]
    unfold hashF Sha.lay
    rw [if_neg (by omega), if_pos (by omega), if_pos (by omega), show j - 8 - k = j - (8 + k) by omega]
    have : j - (8 + k) < l.length := by omega
    simp [this]
  · rw [if_neg h1]
    unfold hashF Sha.lay
    by_cases h8 : j < 8
    · rw [if_pos h8, if_pos h8]
    · rw [if_neg h8, if_neg h8]
      by_cases h72 : j < 72
      · rw [if_pos h72, if_pos h72, if_neg (by omega)]
      · rw [if_neg h72, if_neg h72]
theorem hash_used {w : World} {g : Nat} {t : TypeId} {ws : Nat → UInt32} {b : Nat → UInt8} {u : Nat} {all : UInt64} (h : w.rowIs g t 74 (hashF ws b u all)) (u' : Nat) (v : Int) (hv : v = (u' : Int)) :
    (w.setCell ⟨g, 72, none⟩ (.int .i64 v)).rowIs g t 74 (hashF ws b u' all) := by
  subst hv
  refine (h.set 72 _).congr (fun j hj => ?_)
  by_cases h1 : j = 72
  · subst h1; rw [if_pos rfl]; unfold hashF; rw [if_neg (by omega), if_neg (by omega), if_pos rfl]
  · rw [if_neg h1]; unfold hashF; rw [if_neg h1, if_neg h1]
theorem hash_all {w : World} {g : Nat} {t : TypeId} {ws : Nat → UInt32} {b : Nat → UInt8} {u : Nat} {all : UInt64} (h : w.rowIs g t 74 (hashF ws b u all)) (all' : UInt64) (v : Int) (hv : v = (all'.toNat : Int)) :
    (w.setCell ⟨g, 73, none⟩ (.int .u64 v)).rowIs g t 74 (hashF ws b u all') := by
  subst hv
  refine (h.set 73 _).congr (fun j hj => ?_)
  by_cases h1 : j = 73
  · subst h1; rw [if_pos rfl]; unfold hashF; rw [if_neg (by omega), if_neg (by omega), if_neg (by omega)]
  · rw [if_neg h1]; unfold hashF
    by_cases h8 : j < 8
    · rw [if_pos h8, if_pos h8]
    · rw [if_neg h8, if_neg h8]
      by_cases h72 : j < 72
      · rw [if_pos h72, if_pos h72]
      · rw [if_neg h72, if_neg h72, if_pos (by omega), if_pos (by omega)]
theorem hash_blk {w : World} {g : Nat} {t : TypeId} {ws : Nat → UInt32} {b : Nat → UInt8} {u : Nat} {all : UInt64} (h : w.rowIs g t 74 (hashF ws b u all)) : w.cell? ⟨g, 72, none⟩ = some (.int .i64 (u : Int)) ∧ w.frozen? ⟨g, 72, none⟩ = false ∧ w.cell? ⟨g, 73, none⟩ = some (.int .u64 (all.toNat : Int)) ∧ w.frozen? ⟨g, 73, none⟩ = false :=
  ⟨h.cell (by omega), h.frozen _, h.cell (by omega), h.frozen _⟩
theorem all_nat (all : UInt64) (n : Nat) (hn : n ≤ 1048576) : ((all.toNat : Int) + (n : Int)) % 18446744073709551616 = ((all + UInt64.ofNat n).toNat : Int) := by
  rw [UInt64.toNat_add, UInt64.toNat_ofNat_of_lt' (by show n < 18446744073709551616; omega)]
  omega
/-- A hash that is written, between its blocks. -/
def Hw (g : Nat) (M : List UInt8) (all : UInt64) (r : ByteArray) (w : World) : Prop := ∃ m, m ++ r.data.toList = M ∧ Hs g m all w
set_option maxRecDepth 100000 in
set_option maxHeartbeats 1000000 in
theorem write_any (g : Nat) (m : List UInt8) (all : UInt64) (s : ByteArray) (w : World) (hl : Laid w) (hg1 : 1 < g) (hs : s.size ≤ 1048576) (hh : Hs g m all w) :
    Calls Tryz.prog 63 #[.pointer (some ⟨g, 0, none⟩), .string s] w fun e w' => e = .returned (.pointer (some ⟨g, 0, none⟩)) ∧ Hs g (m ++ s.data.toList) (all + UInt64.ofNat s.size) w' ∧ w.grownBy w' (some g) := by
  obtain ⟨b, hr, hb⟩ := hh
  obtain ⟨c72, z72, c73, z73⟩ := hash_blk hr
  have HR := Lib.hid hr
  have HB := Lib.hid hb
  have HL := Lib.hid hl
  obtain ⟨M, hM⟩ : ∃ M, M = m ++ s.data.toList := ⟨_, rfl⟩
  obtain ⟨al, hal⟩ : ∃ al, al = all + UInt64.ofNat s.size := ⟨_, rfl⟩
  rw [← hM, ← hal]
  have HM := Lib.hid hM
  have HA := Lib.hid hal
  clear hr hb hl hM hal
  go_enter Tryz.func63, Tryz.ntmps63
  go_wp2_with fail
  clear c72 z72 c73 z73
  go_loopw [1] (fun vs wr => ∃ r : ByteArray, r.size ≤ s.size ∧ vs = .string r ∧ Hid (Hw g M al r wr) ∧ Hid (w.grownBy wr (some g))) (fun vs _ => match vs with | .string r => r.size | _ => 0)
  case atStart => exact ⟨s, Nat.le_refl _, rfl, ⟨m, HM.out.symm, b, hash_all HR.out al _ (by rw [HA.out]; exact all_nat all s.size hs), HB.out⟩, grown_cell (World.grownBy.refl w _) 73 _⟩
  case round =>
    clear HR HB HM HA
    obtain ⟨r, hrs, rfl, HW, HG⟩ := hrel
    by_cases hre : r.size = 0
    · have he : r.toList.isEmpty = true := by
        rw [ByteArray.toList_eq, List.isEmpty_iff]; exact List.eq_nil_of_length_eq_zero (by rw [Nib.len_of]; exact hre)
      have HRE := Lib.hid hre
      clear hre
      go_wp2_with fail
      go_ret
      obtain ⟨m1, e1, h1⟩ := HW.out
      have : r.data.toList = [] := List.eq_nil_of_length_eq_zero (by rw [Nib.len_of]; exact HRE.out)
      rw [this, List.append_nil] at e1
      subst e1
      exact ⟨rfl, h1, HG.out⟩
    · have he : r.toList.isEmpty = false := by
        rw [ByteArray.toList_eq]
        cases hl : r.data.toList with
        | nil => exact absurd (by rw [← Nib.len_of, hl]; rfl) hre
        | cons a t => rfl
      obtain ⟨m1, e1, b, hr, hb⟩ := HW.out
      obtain ⟨u, hu⟩ : ∃ u, u = m1.length % 64 := ⟨_, rfl⟩
      have hu64 : u < 64 := by omega
      rw [← hu] at hr
      obtain ⟨c72, z72, c73, z73⟩ := hash_blk hr
      have hsl := slice_from_at g u hu64
      obtain ⟨n, hn⟩ : ∃ n, n = min r.size (64 - u) := ⟨_, rfl⟩
      have hn1 : n ≤ r.size := by omega
      have hn2 : u + n ≤ 64 := by omega
      have hn3 : 0 < n := by omega
      have HN := Lib.hid hn
      have HU := Lib.hid hu
      have HR := Lib.hid hr
      have HB := Lib.hid hb
      have E1 := Lib.hid e1
      have HZ : Hid (∀ w, (Go.sizeOf 5).run Tryz.prog w = .ok 1 w) := fun _ => by kernel_rfl
      have HCC : Hid (∀ j, j < n → (wr.drew.cell? ⟨g, 8 + u + j, none⟩).isSome = true) := fun j hj => by
        rw [World.cell?_drew, hr.cell (i := 8 + u + j) (by omega)]; rfl
      have HFF : Hid (∀ j, j < n → wr.drew.frozen? ⟨g, 8 + u + j, none⟩ = false) := fun j hj => hr.frozen _
      have HL2 : Hid ((wr.drew.setCells g (8 + u) ((r.data.toList.take n).map fun x => Value.int .u8 (x.toNat : Int))).rowIs g 126 74 (hashF (Sha.wordsOf m1) (Sha.lay b u (r.data.toList.take n)) u al)) := hash_lay (World.rowIs.drew hr) u (r.data.toList.take n) (by rw [List.length_take]; omega)
      clear hn hu hr hb e1
      go_wp2_with fail
      go_still_tail 9, (by kernel_rfl)
      refine wpList_copy_str rfl (.tmp 25) (.tmp 26) 63 9 rfl 5 Tryz.underlying63 HZ.out g (8 + u) (64 - u) (64 - u) rfl r rfl n HN.out HCC.out HFF.out ?_
      obtain ⟨W, hW⟩ : ∃ W, W = wr.drew.setCells g (8 + u) ((r.data.toList.take n).map fun x => Value.int .u8 (x.toNat : Int)) := ⟨_, rfl⟩
      change wpList _ _ _ _ _ (wr.drew.setCells g (8 + u) ((r.data.toList.take n).map fun x => Value.int .u8 (x.toNat : Int)))
      rw [← hW]
      have hl2 := HL2.out
      rw [← hW] at hl2
      have d72 : W.cell? ⟨g, 72, none⟩ = some (.int .i64 (u : Int)) := (hash_blk hl2).1
      have y72 : W.frozen? ⟨g, 72, none⟩ = false := (hash_blk hl2).2.1
      have hgW : w.grownBy W (some g) := by
        rw [hW]
        exact grown_cells g _ _ _ (HG.out.trans ⟨rfl, rfl, rfl, Nat.le_refl _, fun _ _ _ => rfl⟩)
      have HWL := Lib.hid hl2
      have HWG := Lib.hid hgW
      clear hW hl2 hgW HL2 HR HCC HFF HZ c72 z72 c73 z73
      by_cases hfull : u + n = 64
      · have hf : ((u : Int) + (n : Int) == 64) = true := by simp; omega
        have HFU := Lib.hid hfull
        clear hfull
        go_wp2_with fail
        refine (turn_any g (Sha.wordsOf m1) (Sha.lay b u (r.data.toList.take n)) (u + n) al _ (HL.out.grown hg1 (grown_cell HWG.out 72 _)) hg1 (hash_used HWL.out (u + n) _ (by omega))).mono ?_
        rintro e w2 ⟨rfl, hr2, hg2⟩
        have HR2 := Lib.hid hr2
        have HG2 := Lib.hid hg2
        clear hr2 hg2
        go_wp2_with fail
        go_roundw
        case rel =>
          have ht : (r.data.toList.take n).length = n := by rw [List.length_take, Nib.len_of]; omega
          have hfu := HFU.out
          have huu := HU.out
          obtain ⟨tw1, tw2⟩ := Sha.tail_whole m1 (r.data.toList.take n) b HB.out (by rw [ht, ← huu]; exact hfu)
          refine ⟨r.extract n r.size, ?_, rfl, ⟨m1 ++ r.data.toList.take n, ?_, Sha.lay b u (r.data.toList.take n), ?_, ?_⟩, (grown_cell HWG.out 72 _).trans HG2.out⟩
          · rw [← Nib.len_of, Lib.extract_to_end, List.length_drop, Nib.len_of]; omega
          · rw [Lib.extract_to_end, List.append_assoc, List.take_append_drop]; exact E1.out
          · rw [tw1, tw2, ← huu]; exact HR2.out
          · intro i hi; rw [tw2] at hi; omega
        case measure =>
          show (r.extract n r.size).size < r.size
          rw [← Nib.len_of, Lib.extract_to_end, List.length_drop, Nib.len_of]; omega
      · have hf : ((u : Int) + (n : Int) == 64) = false := by simp; omega
        have HFU := Lib.hid hfull
        clear hfull
        go_wp2_with fail
        go_roundw
        case rel =>
          have ht : (r.data.toList.take n).length = n := by rw [List.length_take, Nib.len_of]; omega
          have hfu := HFU.out
          have huu := HU.out
          obtain ⟨tp1, tp2, tp3⟩ := Sha.tail_part m1 (r.data.toList.take n) b HB.out (by rw [ht, ← huu]; omega)
          refine ⟨r.extract n r.size, ?_, rfl, ⟨m1 ++ r.data.toList.take n, ?_, Sha.lay b u (r.data.toList.take n), ?_, ?_⟩, grown_cell HWG.out 72 _⟩
          · rw [← Nib.len_of, Lib.extract_to_end, List.length_drop, Nib.len_of]; omega
          · rw [Lib.extract_to_end, List.append_assoc, List.take_append_drop]; exact E1.out
          · rw [tp2, tp3, ht, ← huu]; exact hash_used HWL.out (u + n) _ (by omega)
          · rw [huu]; exact tp1
        case measure =>
          show (r.extract n r.size).size < r.size
          rw [← Nib.len_of, Lib.extract_to_end, List.length_drop, Nib.len_of]; omega
end Go.Proofs.YtfeonjiiijdibaaGreatDoor
namespace Go.Proofs.YtfeonjiiijdibaaGreatDoor
open Go.RowKit
set_option maxRecDepth 100000 in
theorem sha_cells (k0 : Nat → UInt32) : (Array.foldl (fun (cs : Array Value) (x : Value × Nat) => cs.setIfInBounds x.snd x.fst) Tryz.zeroCells126 (wordVals k0 8).zipIdx 0 8) = ((List.range 74).map (hashF k0 (fun _ => 0) 0 0)).toArray := by kernel_rfl
set_option maxRecDepth 100000 in
set_option maxHeartbeats 1000000 in
theorem new_any (w : World) (hl : Laid w) :
    Calls Tryz.prog 62 #[] w fun e w' => e = .returned (.pointer (some ⟨w.heap.size, 0, none⟩)) ∧ Hs w.heap.size [] 0 w' ∧ Below w.heap.size w w' := by
  obtain ⟨⟨t0, f0, e0⟩, _⟩ := hl
  obtain ⟨k0, hk⟩ : ∃ k0 : Nat → UInt32, k0 = fun i => Sha.start.getD i 0 := ⟨_, rfl⟩
  rw [← hk] at e0
  have HK := Lib.hid hk
  have E0 := Lib.hid e0
  clear hk e0
  go_enter Tryz.func62, Tryz.ntmps62
  have hsz := size_wordVals k0 8
  go_wp2_with (refine wpList_load_row rfl 122 (.global 0) rfl 0 rfl t0 _ f0 _ E0.out Tryz.underlying122 rfl (by rw [size_wordVals]; kernel_rfl) ?_)
  go_ret
  refine ⟨rfl, ⟨fun _ => 0, ?_, fun i hi => absurd hi (Nat.not_lt_zero _)⟩, (Below.refl _ _).alloc (Nat.le_refl _) _⟩
  have : Sha.wordsOf [] = k0 := HK.out.symm
  rw [this]
  refine rowIs_of ?_
  rw [heap_alloc_last]
  exact congrArg (fun c => some (Obj.cells c 126 (0, 0))) (sha_cells k0)
theorem slice_span (g u n : Nat) (hu : u < 64) (hun : u ≤ n) (hn : n ≤ 64) (W : World) : (Instr.sliceAt 123 (.pointer (some ⟨g, 8, none⟩)) (some (.int .i64 (u : Int))) (some (.int .i64 (n : Int))) none).run Tryz.prog W = .ok (.slice (some ⟨g, 8 + u, none⟩) (n - u) (64 - u)) W := by
  rw [run_sliceAt_array_lh W 123 _ arr66 .i64 .i64 _ _ (by omega) (by omega) (by rw [len66]; omega), elem66, len66]
  simp only [Result.andThen, slicedAt]
  rw [Int.toNat_natCast, Int.toNat_natCast, if_neg (by omega)]
  simp [Addr.add]
/-- 'clear' of bytes. -/
theorem wpList_clear {ops : Array Oper} {rest : List Oper} {o : Oper} {a : Act} {w : World} {Q : Exit → Act → World → Prop} (hg : o.guard = none) (d : Operand) (dT : TypeId)
    (hop : o.op = Op.call { callee := Callee.builtin Builtin.clear, args := #[d], argTypes := #[dT] }) (hu : Tryz.prog.underlying dT = some (.slice 5)) (hv : ∀ w, (zeroValue 5).run Tryz.prog w = .ok (.int .u8 0) w)
    (b off n c : Nat) (hd : a.eval d = .slice (some ⟨b, off, none⟩) n c)
    (hc : ∀ j, j < n → (w.cell? ⟨b, off + j, none⟩).isSome = true) (hf : ∀ j, j < n → w.frozen? ⟨b, off + j, none⟩ = false)
    (hK : wpList Tryz.prog ops Q rest (a.put o.dst (.tuple #[])) (w.setCells b off (List.replicate n (.int .u8 0)))) : wpList Tryz.prog ops Q (o :: rest) a w := by
  refine wpList_plain hg fun K hK' => ?_
  have hrun : (Builtin.clear_ #[dT] o.type #[.slice (some ⟨b, off, none⟩) n c]).run Tryz.prog w = .ok (.tuple #[]) (w.setCells b off (List.replicate n (.int .u8 0))) := by
    by_cases hn : n = 0
    · subst hn
      simp [Builtin.clear_, run_underlying hu, World.setCells]
    · exact Lib.run_clear_slice w dT 5 o.type (.int .u8 0) hu hv rfl rfl b off n c (by omega) hc hf
  unfold Oper.wp
  simp [execOp, hop, resolve, invoke, builtin, hd, hrun, Result.andThen]
  exact hK' _ _ hK
set_option maxRecDepth 100000 in
set_option maxHeartbeats 1000000 in
theorem blank_any (g : Nat) (ws : Nat → UInt32) (b : Nat → UInt8) (u n : Nat) (all : UInt64) (w : World) (hu : u < 64) (hun : u ≤ n) (hn : n ≤ 64) (hr : w.rowIs g 126 74 (hashF ws b u all)) :
    Calls Tryz.prog 94 #[.pointer (some ⟨g, 0, none⟩), .int .i64 (n : Int)] w fun e w' => e = .returned (.tuple #[]) ∧ w'.rowIs g 126 74 (hashF ws (Sha.lay b u (List.replicate (n - u) 0)) n all) ∧ w.grownBy w' (some g) := by
  obtain ⟨c72, z72, _, _⟩ := hash_blk hr
  have hsl := slice_span g u n hu hun hn
  have HZ : Hid (∀ w, (zeroValue 5).run Tryz.prog w = .ok (.int .u8 0) w) := fun _ => by kernel_rfl
  have HCC : Hid (∀ j, j < n - u → (w.drew.cell? ⟨g, 8 + u + j, none⟩).isSome = true) := fun j hj => by
    rw [World.cell?_drew, hr.cell (i := 8 + u + j) (by omega)]; rfl
  have HFF : Hid (∀ j, j < n - u → w.drew.frozen? ⟨g, 8 + u + j, none⟩ = false) := fun j hj => hr.frozen _
  have HL2 : Hid ((w.drew.setCells g (8 + u) (List.replicate (n - u) (.int .u8 0))).rowIs g 126 74 (hashF ws (Sha.lay b u (List.replicate (n - u) 0)) u all)) := by
    have := hash_lay (World.rowIs.drew hr) u (List.replicate (n - u) 0) (by rw [List.length_replicate]; omega)
    rw [List.map_replicate] at this
    exact this
  have HR := Lib.hid hr
  clear hr
  go_enter Tryz.func94, Tryz.ntmps94
  go_wp2_with fail
  go_still_tail 9, (by kernel_rfl)
  refine wpList_clear rfl (.tmp 12) 63 rfl Tryz.underlying63 HZ.out g (8 + u) (n - u) (64 - u) rfl HCC.out HFF.out ?_
  change wpList _ _ _ _ _ (w.drew.setCells g (8 + u) (List.replicate (n - u) (.int .u8 0)))
  obtain ⟨W, hW⟩ : ∃ W, W = w.drew.setCells g (8 + u) (List.replicate (n - u) (.int .u8 0)) := ⟨_, rfl⟩
  rw [← hW]
  have hl2 := HL2.out
  rw [← hW] at hl2
  have d72 : W.cell? ⟨g, 72, none⟩ = some (.int .i64 (u : Int)) := (hash_blk hl2).1
  have y72 : W.frozen? ⟨g, 72, none⟩ = false := (hash_blk hl2).2.1
  have hgW : w.grownBy W (some g) := by
    rw [hW]
    exact grown_cells g _ _ _ ⟨rfl, rfl, rfl, Nat.le_refl _, fun _ _ _ => rfl⟩
  have HWL := Lib.hid hl2
  have HWG := Lib.hid hgW
  clear hW hl2 hgW HL2 HR HCC HFF HZ c72 z72
  go_wp2_with fail
  go_end0
  exact ⟨rfl, hash_used HWL.out n _ rfl, grown_cell HWG.out 72 _⟩
end Go.Proofs.YtfeonjiiijdibaaGreatDoor
namespace Go.Proofs.Sha
def pad1 (m : List UInt8) : List UInt8 :=
  let m1 := m ++ [128]
  let m2 := if 56 < m1.length % 64 then m1 ++ List.replicate (64 - m1.length % 64) 0 else m1
  m2 ++ List.replicate (56 - m2.length % 64) 0
def lenByte (all : UInt64) (k : Nat) : UInt8 := ((all <<< 3) >>> UInt64.ofNat (56 - 8 * k)).toUInt8
def lenBytes (all : UInt64) : List UInt8 := (List.range 8).map (lenByte all)
def wordBytes (x : UInt32) : List UInt8 := [(x >>> 24).toUInt8, (x >>> 16).toUInt8, (x >>> 8).toUInt8, x.toUInt8]
def outBytes (ws : Nat → UInt32) : Nat → List UInt8
  | 0 => []
  | n + 1 => outBytes ws n ++ wordBytes (ws n)
/-- The hash of bytes. -/
def sum (m : List UInt8) : List UInt8 := outBytes (wordsOf (pad1 m ++ lenBytes (UInt64.ofNat m.length))) 8
end Go.Proofs.Sha
namespace Go.Proofs.YtfeonjiiijdibaaGreatDoor
open Go.RowKit
theorem Hs.of_block {g : Nat} {m : List UInt8} {all : UInt64} {w w' : World} (h : Hs g m all w) (e : w'.heap[g]? = w.heap[g]?) : Hs g m all w' := by
  obtain ⟨b, hr, hb⟩ := h
  exact ⟨b, hr.of_block e, hb⟩
theorem Hs.lt {g : Nat} {m : List UInt8} {all : UInt64} {w : World} (h : Hs g m all w) : g < w.heap.size := by
  obtain ⟨b, hr, hb⟩ := h
  exact hr.lt
theorem Laid.below {w w' : World} (h : Laid w) {B : Nat} (hB : 1 < B) (hw : Below B w w') : Laid w' := by
  obtain ⟨⟨t0, f0, e0⟩, ⟨t1, f1, e1⟩⟩ := h
  exact ⟨⟨t0, f0, by rw [hw.block 0 (by omega)]; exact e0⟩, ⟨t1, f1, by rw [hw.block 1 (by omega)]; exact e1⟩⟩
theorem blank64 (g : Nat) (m : List UInt8) (al : UInt64) (w : World) (h : Hs g m al w) :
    Calls Tryz.prog 94 #[.pointer (some ⟨g, 0, none⟩), .int .i64 64] w fun e w' => e = .returned (.tuple #[]) ∧ w.grownBy w' (some g) ∧ (∃ b, w'.rowIs g 126 74 (hashF (Sha.wordsOf m) b 64 al) ∧ Sha.wordsOf (m ++ List.replicate (64 - m.length % 64) 0) = Sha.compress (Sha.wordsOf m) b) := by
  obtain ⟨b, hr, hb⟩ := h
  refine (blank_any g _ b _ 64 al w (by omega) (by omega) (by omega) hr).mono ?_
  rintro e w' ⟨rfl, hr', hg⟩
  exact ⟨rfl, hg, _, hr', (Sha.tail_whole m (List.replicate (64 - m.length % 64) 0) b hb (by rw [List.length_replicate]; omega)).1⟩
theorem blank56 (g : Nat) (m : List UInt8) (al : UInt64) (w : World) (h : Hs g m al w) (hm : m.length % 64 ≤ 56) :
    Calls Tryz.prog 94 #[.pointer (some ⟨g, 0, none⟩), .int .i64 56] w fun e w' => e = .returned (.tuple #[]) ∧ w.grownBy w' (some g) ∧ Hs g (m ++ List.replicate (56 - m.length % 64) 0) al w' ∧ (m ++ List.replicate (56 - m.length % 64) 0).length % 64 = 56 := by
  obtain ⟨b, hr, hb⟩ := h
  refine (blank_any g _ b _ 56 al w (by omega) (by omega) (by omega) hr).mono ?_
  rintro e w' ⟨rfl, hr', hg⟩
  obtain ⟨t1, t2, t3⟩ := Sha.tail_part m (List.replicate (56 - m.length % 64) 0) b hb (by rw [List.length_replicate]; omega)
  rw [List.length_replicate] at t3
  refine ⟨rfl, hg, ⟨_, ?_, t1⟩, by rw [t3]; omega⟩
  rw [t2, t3, show m.length % 64 + (56 - m.length % 64) = 56 by omega]
  exact hr'
theorem lay_nil (b : Nat → UInt8) (u : Nat) : Sha.lay b u [] = b := by
  funext i
  unfold Sha.lay
  rw [if_neg (by simp)]
theorem lay_snoc (b : Nat → UInt8) (u : Nat) (t : List UInt8) (x : UInt8) : Sha.lay (Sha.lay b u t) (u + t.length) [x] = Sha.lay b u (t ++ [x]) := by
  funext i
  unfold Sha.lay
  rw [List.length_append]
  simp only [List.length_cons, List.length_nil]
  by_cases h1 : u + t.length ≤ i ∧ i < u + t.length + (0 + 1)
  · rw [if_pos h1, if_pos (by omega)]
    simp only [List.getD_eq_getElem?_getD]
    rw [List.getElem?_append_right (by omega), show i - u - t.length = i - (u + t.length) by omega]
  · rw [if_neg h1]
    by_cases h2 : u ≤ i ∧ i < u + t.length
    · rw [if_pos h2, if_pos (by omega)]
      simp only [List.getD_eq_getElem?_getD]
      rw [List.getElem?_append_left (by omega)]
    · rw [if_neg h2, if_neg (by omega)]
theorem len_take (all : UInt64) (k : Nat) (hk : k < 8) : (Sha.lenBytes all).take (k + 1) = (Sha.lenBytes all).take k ++ [Sha.lenByte all k] := by
  rw [List.take_succ_eq_append_getElem (by simpa [Sha.lenBytes] using hk)]
  simp [Sha.lenBytes]
theorem len_len (all : UInt64) (k : Nat) (hk : k ≤ 8) : ((Sha.lenBytes all).take k).length = k := by
  simp [Sha.lenBytes]; omega
theorem wrap_u64 (n : Int) : IntKind.u64.wrap n = n % 18446744073709551616 := by simp [IntKind.wrap, IntKind.bits, IntKind.signed]
theorem grown_drew {w w' : World} {r : Option Nat} (h : w.grownBy w' r) : w.grownBy w'.drew r := h.trans ⟨rfl, rfl, rfl, Nat.le_refl _, fun _ _ _ => rfl⟩
theorem len_nat (all : UInt64) (k : Nat) : IntKind.u64.wrap ((all.toNat : Int) * 8) / 2 ^ (56 - 8 * k) % 256 = ((Sha.lenByte all k).toNat : Int) := by
  have h56 : 56 - 8 * k < 64 := by omega
  have e1 : IntKind.u64.wrap ((all.toNat : Int) * 8) = ((all <<< 3).toNat : Int) := by
    have e3 : (3 : UInt64).toNat % 64 = 3 := by decide
    rw [UInt64.toNat_shiftLeft, e3, Nat.shiftLeft_eq, wrap_u64]
    omega
  rw [e1]
  unfold Sha.lenByte
  rw [UInt64.toNat_toUInt8, UInt64.toNat_shiftRight, UInt64.toNat_ofNat_of_lt' (Nat.lt_trans h56 (by decide)), Nat.mod_eq_of_lt h56, Nat.shiftRight_eq_div_pow]
  have e2 : ((2 ^ (56 - 8 * k) : Nat) : Int) = 2 ^ (56 - 8 * k) := Int.natCast_pow _ _
  rw [← e2, ← Int.natCast_ediv, show (256 : Int) = ((256 : Nat) : Int) from rfl, ← Int.natCast_emod]
theorem word_vals (x : UInt32) : (Sha.wordBytes x).map (fun b => Value.int .u8 (b.toNat : Int)) = [.int .u8 ((x.toNat : Int) / 16777216 % 256), .int .u8 ((x.toNat : Int) / 65536 % 256), .int .u8 ((x.toNat : Int) / 256 % 256), .int .u8 ((x.toNat : Int) % 256)] := by
  have e1 := Sha.shr_nat x 24 (by decide)
  have e2 := Sha.shr_nat x 16 (by decide)
  have e3 := Sha.shr_nat x 8 (by decide)
  have f1 : (x.toNat : Int) / (16777216 : Int) = ((x >>> 24).toNat : Int) := e1
  have f2 : (x.toNat : Int) / (65536 : Int) = ((x >>> 16).toNat : Int) := e2
  have f3 : (x.toNat : Int) / (256 : Int) = ((x >>> 8).toNat : Int) := e3
  rw [f1, f2, f3]
  simp [Sha.wordBytes]
theorem out_length (ws : Nat → UInt32) (n : Nat) : (Sha.outBytes ws n).length = 4 * n := by
  induction n with
  | zero => rfl
  | succ n ih => rw [Sha.outBytes, List.length_append, ih]; simp [Sha.wordBytes]; omega
theorem Bl.grown {B : Nat} {a b c : World} (h : Bl B a b) {g : Nat} (k : b.grownBy c (some g)) (hg : B ≤ g := by exact Nat.le_refl _) : Bl B a c := ⟨h.1.grown k h.2 (fun i hi => by cases hi; exact hg), Nat.le_trans h.2 k.size⟩
theorem Bl.grown' {B : Nat} {a b c : World} (h : Bl B a b) (k : b.grownBy c none) : Bl B a c := ⟨h.1.grown k h.2 (fun i hi => by cases hi), Nat.le_trans h.2 k.size⟩
theorem words_range (g : Nat) (t : TypeId) (ws : Nat → UInt32) (b : Nat → UInt8) (u : Nat) (all : UInt64) (w : World) (hr : w.rowIs g t 74 (hashF ws b u all)) : w.rangeAt g 0 (wordVals ws 8).toList := by
  intro j v hj
  have hlt : j < 8 := by
    rcases Nat.lt_or_ge j 8 with h | h
    · exact h
    · rw [List.getElem?_eq_none (by simpa [wordVals] using h)] at hj; cases hj
  rw [Nat.zero_add, hr.cell (by omega)]
  simp [wordVals, hlt] at hj
  subst hj
  unfold hashF
  rw [if_pos hlt]
theorem whole_hs (m : List UInt8) : (m ++ List.replicate (64 - m.length % 64) 0).length % 64 = 0 := by
  rw [List.length_append, List.length_replicate]; omega
set_option maxRecDepth 100000 in
set_option maxHeartbeats 1000000 in
theorem sum_any (g : Nat) (m : List UInt8) (w : World) (hl : Laid w) (hg1 : 1 < g) (hh : Hs g m (UInt64.ofNat m.length) w) :
    Calls Tryz.prog 64 #[.pointer (some ⟨g, 0, none⟩)] w fun e w' => e = .returned (.string (Nib.bs (Sha.sum m))) ∧ Below w.heap.size w w' := by
  have hlt := hh.lt
  obtain ⟨all, ha⟩ : ∃ all, all = UInt64.ofNat m.length := ⟨_, rfl⟩
  rw [← ha] at hh
  have HH := Lib.hid hh
  obtain ⟨b, hr, hb⟩ := hh
  have c73 := (hash_blk hr).2.2.1
  obtain ⟨c, hg, hcz, hcf⟩ := hr
  have hone : c.all (·.oneCell') = true := by
    rw [Array.all_eq_true]
    intro i hi
    have := hcf i (by omega)
    rw [Array.getElem?_eq_getElem hi] at this
    rw [Option.some.inj this]
    unfold hashF
    split
    · rfl
    · split
      · rfl
      · split <;> rfl
  have HG := Lib.hid hg
  have HC := Lib.hid hcf
  have HCZ := Lib.hid hcz
  have HO := Lib.hid hone
  have HA := Lib.hid ha
  have HL := Lib.hid hl
  have HB := Lib.hid hb
  clear hg ha hl hb hcf hcz hone
  go_enter Tryz.func64, Tryz.ntmps64
  go_wp2_with (first | (with_reducible refine wpList_load_row rfl 126 (.tmp 9) rfl g rfl 126 c (0, 0) _ HG.out Tryz.underlying126 rfl (by rw [HCZ.out]; kernel_rfl) ?_) | (with_reducible refine wpList_store_row rfl 126 (.tmp 3) (.tmp 10) rfl w.heap.size c rfl rfl 126 _ (heap_alloc_last _ _) (by rw [HCZ.out]; kernel_rfl) (by simp [HCZ.out]) HO.out ?_))
  rw [World.setRow_alloc_new]
  obtain ⟨W0, hW0⟩ : ∃ W0, W0 = w.alloc (Obj.cells c 126) := ⟨_, rfl⟩
  obtain ⟨G, hG⟩ : ∃ G, G = w.heap.size := ⟨_, rfl⟩
  have hG1 : 1 < G := by omega
  have hgG : g < G := by omega
  have h0 : Hs G m all W0 := by
    rw [hW0, hG]
    exact ⟨b, ⟨c, heap_alloc_last w _, HCZ.out, HC.out⟩, HB.out⟩
  have b0 : Bl G w W0 := by rw [hW0, hG]; exact (Bl.start w).alloc _
  have l0 : Laid W0 := HL.out.below hG1 b0.1
  have g73 : W0.cell? ⟨g, 73, none⟩ = some (.int .u64 (all.toNat : Int)) := by rw [b0.1.cell (p := ⟨g, 73, none⟩) hgG]; exact c73
  rw [← hW0, ← hG]
  have H0 := Lib.hid h0
  have B0 := Lib.hid b0
  have L0 := Lib.hid l0
  have C0 := Lib.hid g73
  have HGG := Lib.hid hG
  clear h0 b0 l0 g73 hW0 hG HG HC HCZ HO HL HB HH c73 hlt hg1
  refine (write_any G m all ⟨#[128]⟩ _ L0.out hG1 (by decide) H0.out).mono ?_
  rintro e w1 ⟨rfl, h1, g1⟩
  have h1' : Hs G (m ++ [128]) (all + 1) w1 := h1
  obtain ⟨m1, hm1⟩ : ∃ m1, m1 = m ++ [128] := ⟨_, rfl⟩
  obtain ⟨al, hal⟩ : ∃ al, al = all + 1 := ⟨_, rfl⟩
  rw [← hm1, ← hal] at h1'
  obtain ⟨u1, hu1⟩ : ∃ u1, u1 = m1.length % 64 := ⟨_, rfl⟩
  have d72 : w1.cell? ⟨G, 72, none⟩ = some (.int .i64 (u1 : Int)) := by
    obtain ⟨b1, hr1, _⟩ := h1'
    rw [hu1]
    exact (hash_blk hr1).1
  have H1 := Lib.hid h1'
  have G1 := Lib.hid g1
  have M1 := Lib.hid hm1
  have U1 := Lib.hid hu1
  clear h1 h1' g1 hm1 hal
  have hcases : 56 < u1 ∨ ¬ 56 < u1 := Decidable.em _
  rcases hcases with h56 | h56
  have hu56 : (56 : Int) < (u1 : Int) := by omega
  have H56 : Hid (56 < m1.length % 64) := by rw [← hu1]; exact h56
  clear hu1 h56
  go_wp2_with fail
  refine (blank64 G m1 al _ H1.out).mono ?_
  rintro e w2 ⟨rfl, g2, b2, r2, e2⟩
  have G2 := Lib.hid g2
  have R2 := Lib.hid r2
  have E2 := Lib.hid e2
  clear g2 r2 e2
  go_wp2_with fail
  refine (turn_any G (Sha.wordsOf m1) b2 64 al _ ((L0.out.grown hG1 G1.out).grown hG1 G2.out) hG1 R2.out).mono ?_
  rintro e w3 ⟨rfl, r3, g3⟩
  have h3 : Hs G (m1 ++ List.replicate (64 - m1.length % 64) 0) al w3 := ⟨b2, by rw [whole_hs, E2.out]; exact r3, fun i hi => by rw [whole_hs] at hi; omega⟩
  have H3 := Lib.hid h3
  have G3 := Lib.hid g3
  clear r3 g3 h3
  go_wp2_with fail
  refine (blank56 G _ al _ H3.out (by rw [whole_hs]; omega)).mono ?_
  rintro e w4 ⟨rfl, g4, h4, l4⟩
  obtain ⟨P, hP⟩ : ∃ P, P = Sha.pad1 m := ⟨_, rfl⟩
  have hP2 : (m1 ++ List.replicate (64 - m1.length % 64) 0) ++ List.replicate (56 - (m1 ++ List.replicate (64 - m1.length % 64) 0).length % 64) 0 = P := by
    have h56 := H56.out
    rw [hP, Sha.pad1, ← M1.out]
    simp only [if_pos h56]
  rw [hP2] at h4 l4
  have G4 : Hid (W0.grownBy w4 (some G)) := Lib.hid (((G1.out.trans G2.out).trans G3.out).trans g4)
  have H4 := Lib.hid h4
  have P4 := Lib.hid l4
  have HP := Lib.hid hP
  clear g4 h4 l4 hP hP2 G2 G3 E2 R2 H3 H56 hu56 M1 U1
  rotate_left
  have hu56 : ¬ (56 : Int) < (u1 : Int) := by omega
  have H56 : Hid (¬ 56 < m1.length % 64) := by rw [← hu1]; exact h56
  clear hu1 h56
  go_wp2_with fail
  refine (blank56 G m1 al _ H1.out (by have := U1.out; have := H56.out; omega)).mono ?_
  rintro e w4 ⟨rfl, g4, h4, l4⟩
  obtain ⟨P, hP⟩ : ∃ P, P = Sha.pad1 m := ⟨_, rfl⟩
  have hP2 : m1 ++ List.replicate (56 - m1.length % 64) 0 = P := by
    have h56 := H56.out
    rw [hP, Sha.pad1, ← M1.out]
    simp only [if_neg h56]
  rw [hP2] at h4 l4
  have G4 : Hid (W0.grownBy w4 (some G)) := Lib.hid (G1.out.trans g4)
  have H4 := Lib.hid h4
  have P4 := Lib.hid l4
  have HP := Lib.hid hP
  clear g4 h4 l4 hP hP2 H56 hu56 M1 U1
  all_goals
    clear d72 G1 H1 H0
    have hgG2 : g ≠ G := by omega
    go_wp2_with fail
    obtain ⟨b4, hr4, hb4⟩ := H4.out
    rw [P4.out] at hr4
    have R4 := Lib.hid hr4
    have B4 := Lib.hid hb4
    clear hr4 hb4
    go_loopw [4] (fun v wr => ∃ k : Nat, k ≤ 8 ∧ v = .int .i64 (56 - 8 * (k : Int)) ∧ Hid (wr.rowIs G 126 74 (hashF (Sha.wordsOf P) (Sha.lay b4 56 ((Sha.lenBytes all).take k)) (56 + k) al)) ∧ Hid (w4.grownBy wr (some G))) (fun v _ => (intOf v + 8).toNat)
    case atStart => exact ⟨0, Nat.zero_le _, rfl, by rw [List.take_zero, lay_nil]; exact R4.out, World.grownBy.refl _ _⟩
    case round =>
      obtain ⟨k, hk, rfl, RK, GK⟩ := hrel
      by_cases hlt : k < 8
      · obtain ⟨k72, y72, _, _⟩ := hash_blk RK.out
        have kc : wr.cell? ⟨G, 8 + (56 + k), none⟩ = some (hashF (Sha.wordsOf P) (Sha.lay b4 56 ((Sha.lenBytes all).take k)) (56 + k) al (8 + (56 + k))) := RK.out.cell (by omega)
        have kz : wr.frozen? ⟨G, 8 + (56 + k), none⟩ = false := RK.out.frozen _
        have k73 : wr.cell? ⟨g, 73, none⟩ = some (.int .u64 (all.toNat : Int)) := by
          refine GK.out.cell (G4.out.cell C0.out ?_) ?_
          · simpa using hgG2
          · simpa using hgG2
        have hge : (0 : Int) ≤ 56 - 8 * (k : Int) := by omega
        go_wp2_with fail
        go_region
        all_goals go_wp2_with fail
        all_goals go_roundw
        case rel =>
          have hb := hash_lay RK.out (56 + k) [Sha.lenByte all k] (by simp; omega)
          have e9 : Sha.lay (Sha.lay b4 56 ((Sha.lenBytes all).take k)) (56 + k) [Sha.lenByte all k] = Sha.lay b4 56 ((Sha.lenBytes all).take (k + 1)) := by
            rw [len_take all k hlt, ← lay_snoc, len_len all k hk]
          rw [e9] at hb
          refine ⟨k + 1, by omega, by congr 1; omega, ?_, grown_drew (grown_cell (grown_cell GK.out _ _) 72 _)⟩
          rw [len_nat]
          exact (hash_used hb (56 + (k + 1)) _ (by omega)).drew
        case measure => simp [intOf]; omega
      · have hk2 : k = 8 := by omega
        subst hk2
        rw [show (56 - 8 * ((8 : Nat) : Int)) = -8 from rfl]
        have LK : Laid wr := (L0.out.grown hG1 G4.out).grown hG1 GK.out
        have LKH := Lib.hid LK
        clear LK
        go_wp2_with fail
        refine (turn_any G (Sha.wordsOf P) (Sha.lay b4 56 ((Sha.lenBytes all).take 8)) (56 + 8) al _ LKH.out hG1 RK.out).mono ?_
        rintro e w5 ⟨rfl, r5, g5⟩
        have eW : Sha.wordsOf (P ++ Sha.lenBytes all) = Sha.compress (Sha.wordsOf P) (Sha.lay b4 56 ((Sha.lenBytes all).take 8)) := by
          have := (Sha.tail_whole P (Sha.lenBytes all) b4 B4.out (by rw [P4.out]; simp [Sha.lenBytes])).1
          rw [this, P4.out, List.take_of_length_le (by simp [Sha.lenBytes])]
        rw [← eW] at r5
        have B5 : Hid (Bl G w w5) := by
          have : Bl G w w5 := ⟨(B0.out.1.grown (((G4.out.trans GK.out).trans g5)) B0.out.2 (fun k hk => by cases hk; exact Nat.le_refl _)), Nat.le_trans B0.out.2 (((G4.out.trans GK.out).trans g5).size)⟩
          exact this
        obtain ⟨ws, hws⟩ : ∃ ws, ws = Sha.wordsOf (P ++ Sha.lenBytes all) := ⟨_, rfl⟩
        rw [← hws] at r5
        have R5 := Lib.hid r5
        have HWS := Lib.hid hws
        clear r5 g5 eW hws
        obtain ⟨i0, hi, hz0, hz1, hz2⟩ := info_parts infoU8
        go_wp2_with (first | (at_make; refine wpList_make_own _ rfl _ _ 63 rfl w5.heap.size 5 i0 (.int .u8 0) 1 Tryz.underlying63 hi hz0 hz1 .i64 .i64 32 32 rfl rfl rfl (by omega) (by decide) (Nat.le_refl _) ?_; intro w6 own6 gr6; have R6 := Lib.hid (R5.out.of_block (gr6.block G R5.out.lt (by simp))); have OWN6 := Lib.hid own6; have GR6 := Lib.hid gr6; clear own6 gr6) | (with_reducible refine wpList_load_mid rfl 122 (.tmp 40) rfl G 0 rfl (wordVals ws 8).toList _ (words_range G _ ws _ _ _ _ R6.out) Tryz.underlying122 rfl (by rw [Array.length_toList, size_wordVals]; kernel_rfl) ?_))
        obtain ⟨N, hN⟩ : ∃ N, N = w5.heap.size := ⟨_, rfl⟩
        rw [← hN]
        have OWN := OWN6.out
        rw [← hN] at OWN
        have OWNH := Lib.hid OWN
        have HNN := Lib.hid hN
        clear OWN hN OWN6 R6
        have len65 : Tryz.prog.underlying 122 = some (.array 8 107) := by kernel_rfl
        have HIX8 : Hid (∀ (k : Nat), k < 8 → ∀ w : World, (Instr.index 122 (.agg (wordVals ws 8)) (.int .i64 (k : Int))).run Tryz.prog w = .ok (.int .u32 ((ws k).toNat : Int)) w) := fun k hk w => index_words 122 107 8 ws len65 (fun _ => by kernel_rfl) (fun _ => by kernel_rfl) k hk w
        clear len65
        go_loopw [5, 42] (fun v5 vi wr => ∃ k : Nat, k ≤ 8 ∧ vi = .int .i64 k ∧ v5 = .slice (some ⟨N, 0, none⟩) (4 * k) 32 ∧ Hid (wr.ownsRow N 5 1 (.slice (some ⟨N, 0, none⟩) (4 * k) 32) (4 * k) ((Sha.outBytes ws k).map fun b => .int .u8 (b.toNat : Int))) ∧ Hid (Bl N w6 wr)) (fun _ vi _ => 8 - (intOf vi).toNat)
        case atStart => exact ⟨0, Nat.zero_le _, rfl, rfl, OWNH.out, ⟨Below.refl _ _, by have := GR6.out.size; have := HNN.out; omega⟩⟩
        case round =>
          obtain ⟨k, hk, rfl, rfl, OWK, BK⟩ := hrel
          by_cases hlt : k < 8
          · have hix := HIX8.out k hlt
            obtain ⟨x, hx⟩ : ∃ x, x = ws k := ⟨_, rfl⟩
            rw [← hx] at hix
            have HX := Lib.hid hx
            clear hx
            have hone : ∀ u ∈ ([.int .u8 ((x.toNat : Int) / 16777216 % 256), .int .u8 ((x.toNat : Int) / 65536 % 256), .int .u8 ((x.toNat : Int) / 256 % 256), .int .u8 ((x.toNat : Int) % 256)] : List Value), u.oneCell' = true := by
              intro u hu
              simp at hu
              rcases hu with rfl | rfl | rfl | rfl <;> rfl
            have HONE := Lib.hid hone
            have HI := Lib.hid hi
            clear hone
            go_wp2_with (at_builtin; refine wpList_append_fits _ rfl _ _ 63 rfl N 5 i0 1 Tryz.underlying63 hi hz1 N (4 * k) 32 _ rfl (OWK.out.alloc _) ⟨wr.heap.size, 0, none⟩ 4 4 [.int .u8 ((x.toNat : Int) / 16777216 % 256), .int .u8 ((x.toNat : Int) / 65536 % 256), .int .u8 ((x.toNat : Int) / 256 % 256), .int .u8 ((x.toNat : Int) % 256)] rfl rfl (cells_new wr _ _) HONE.out (by omega) ?_; intro w7 own7 gr7; have OWN7 := Lib.hid own7; have GR7 := Lib.hid gr7; clear own7 gr7)
            go_roundw
            case rel =>
              have ew : (Sha.outBytes ws (k + 1)).map (fun b => Value.int .u8 (b.toNat : Int)) = (Sha.outBytes ws k).map (fun b => Value.int .u8 (b.toNat : Int)) ++ [.int .u8 ((x.toNat : Int) / 16777216 % 256), .int .u8 ((x.toNat : Int) / 65536 % 256), .int .u8 ((x.toNat : Int) / 256 % 256), .int .u8 ((x.toNat : Int) % 256)] := by
                rw [Sha.outBytes, List.map_append, ← HX.out, word_vals]
              refine ⟨k + 1, by omega, by go_num, by rw [show 4 * (k + 1) = 4 * k + 4 by omega], ?_, (BK.out.alloc _).grown GR7.out⟩
              rw [ew, show 4 * (k + 1) = 4 * k + 4 by omega]
              exact OWN7.out
            case measure => simp [intOf]; omega
          · have hk2 : k = 8 := by omega
            subst hk2
            have hcv := run_convert_bytes_arg (P := Tryz.prog) wr 63 5 Tryz.underlying63 Tryz.underlying5 N 0 (4 * 8) 32 ((Sha.outBytes ws 8).map fun b => (b.toNat : Int)) (by rw [List.length_map, out_length]) (fun i hi => by
              rw [Nat.zero_add, OWK.out.cellAt i (by simpa using hi)]
              have hi2 : i < (Sha.outBytes ws 8).length := by rw [out_length]; exact hi
              simp [List.getD, hi2]) 9 Tryz.underlying9
            rw [strOfNums_bytes] at hcv
            have HCV := Lib.hid hcv
            clear hcv
            have hcv2 := HCV.out
            go_wp2_with fail
            go_ret
            refine ⟨ret_string ?_, ?_⟩
            · rw [HWS.out, HP.out, HA.out, Sha.sum]
            · have h6 : Bl G w w6 := B5.out.grown' GR6.out
              have hNG : G ≤ N := by have := B5.out.2; have := HNN.out; omega
              have := (h6.1.trans (BK.out.1.mono hNG))
              rw [← HGG.out]
              exact this
end Go.Proofs.YtfeonjiiijdibaaGreatDoor
namespace Go.Proofs.Sha
/-- Texts, one behind the other. -/
def cat (ps : List ByteArray) : List UInt8 := (ps.map fun p => p.data.toList).flatten
theorem cat_snoc (ps : List ByteArray) (p : ByteArray) : cat (ps ++ [p]) = cat ps ++ p.data.toList := by simp [cat]
end Go.Proofs.Sha
namespace Go.Proofs.YtfeonjiiijdibaaGreatDoor
open Go.RowKit
theorem ofNat_add (a b : Nat) : UInt64.ofNat a + UInt64.ofNat b = UInt64.ofNat (a + b) := by simp
set_option maxRecDepth 100000 in
set_option maxHeartbeats 1000000 in
/-- sha.Of: the hash of texts, one behind the other. -/
theorem of_any (pb po cap : Nat) (ps : List ByteArray) (w : World) (hl : Laid w) (hpb : pb < w.heap.size) (hps : ∀ p ∈ ps, p.size ≤ 1048576) (hn : ps.length ≤ 1048576)
    (hc : ∀ i, i < ps.length → w.cell? ⟨pb, po + i, none⟩ = some (.string (ps.getD i ByteArray.empty))) :
    Calls Tryz.prog 34 #[.slice (some ⟨pb, po, none⟩) ps.length cap] w fun e w' => e = .returned (.string (Nib.bs (Sha.sum (Sha.cat ps)))) ∧ Below w.heap.size w w' := by
  have hw1 : 1 < w.heap.size := by obtain ⟨_, ⟨t1, f1, e1⟩⟩ := hl; exact (Array.getElem?_eq_some_iff.1 e1).1
  have HC : Hid (∀ i, i < ps.length → w.cell? ⟨pb, po + i, none⟩ = some (.string (ps.getD i ByteArray.empty))) := hc
  have HPS : Hid (∀ p ∈ ps, p.size ≤ 1048576) := hps
  have HL := Lib.hid hl
  obtain ⟨n, hnn⟩ : ∃ n, n = ps.length := ⟨_, rfl⟩
  rw [← hnn] at hn HC
  rw [← hnn]
  have HNN := Lib.hid hnn
  clear hc hps hl hnn
  go_enter Tryz.func34, Tryz.ntmps34
  go_wp2_with fail
  refine (new_any _ HL.out).mono ?_
  rintro e w1 ⟨rfl, h1, b1⟩
  obtain ⟨g, hg⟩ : ∃ g, g = w.heap.size := ⟨_, rfl⟩
  rw [← hg] at h1 b1 hpb hw1
  rw [← hg]
  have HG := Lib.hid hg
  have H1 := Lib.hid h1
  have B1 : Hid (Bl g w w1) := ⟨b1, Nat.le_of_lt h1.lt⟩
  have L1 := Lib.hid (HL.out.below hw1 b1)
  clear h1 b1 hg
  go_wp2_with fail
  go_loopw [9] (fun vi wr => ∃ k : Nat, k ≤ n ∧ vi = .int .i64 k ∧ Hid (Hs g (Sha.cat (ps.take k)) (UInt64.ofNat (Sha.cat (ps.take k)).length) wr) ∧ Hid (w1.grownBy wr (some g))) (fun vi _ => n - (intOf vi).toNat)
  case atStart => exact ⟨0, Nat.zero_le _, rfl, H1.out, World.grownBy.refl _ _⟩
  case round =>
    obtain ⟨k, hk, rfl, HK, GK⟩ := hrel
    by_cases hlt : k < n
    · obtain ⟨p, hp⟩ : ∃ p, p = ps.getD k ByteArray.empty := ⟨_, rfl⟩
      have hcell : wr.cell? ⟨pb, po + k, none⟩ = some (.string p) := by
        rw [hp]
        refine GK.out.cell ((B1.out.1.cell (p := ⟨pb, po + k, none⟩) hpb).trans (HC.out k hlt)) (by simp; omega)
      have hkl : k < ps.length := by rw [← HNN.out]; exact hlt
      have hpsz : p.size ≤ 1048576 := HPS.out p (by rw [hp]; simp [List.getD, hkl])
      have HT : Hid (ps.take (k + 1) = ps.take k ++ [p]) := by
        have : ps.take (k + 1) = ps.take k ++ [p] := by rw [List.take_succ_eq_append_getElem hkl, hp]; simp [List.getD, hkl]
        exact this
      clear hp hkl
      go_wp2_with fail
      refine (write_any g _ _ p _ (L1.out.grown hw1 GK.out) hw1 hpsz HK.out).mono ?_
      rintro e w2 ⟨rfl, h2, g2⟩
      have H2 := Lib.hid h2
      have G2 := Lib.hid g2
      clear h2 g2
      go_wp2_with fail
      go_roundw
      case rel =>
        refine ⟨k + 1, by omega, by go_num, ?_, GK.out.trans G2.out⟩
        rw [HT.out, Sha.cat_snoc, List.length_append, ← ofNat_add, Nib.len_of]
        exact H2.out
      case measure => simp [intOf]; omega
    · have hk2 : k = n := by omega
      subst hk2
      go_wp2_with fail
      refine (sum_any g _ _ (L1.out.grown hw1 GK.out) hw1 HK.out).mono ?_
      rintro e w2 ⟨rfl, b2⟩
      go_wp2_with fail
      go_ret
      refine ⟨ret_string ?_, ?_⟩
      · rw [HNN.out, List.take_length]
      · rw [← HG.out]
        exact ((B1.out.grown GK.out).call b2).1
theorem take_pair (p : List UInt8) (n : Nat) (a b : UInt8) (h1 : p[n]? = some a) (h2 : p[n + 1]? = some b) : p.take (n + 2) = p.take n ++ [a, b] := by
  obtain ⟨l1, e1⟩ := List.getElem?_eq_some_iff.1 h1
  obtain ⟨l2, e2⟩ := List.getElem?_eq_some_iff.1 h2
  rw [show n + 2 = (n + 1) + 1 from rfl, List.take_succ_eq_append_getElem l2, List.take_succ_eq_append_getElem l1, e1, e2]
  simp
/-- 'append' within the capacity, as a step of a region that draws. -/
theorem step_append_fits {ops : Array Oper} {o : Oper} {a : Act} {w : World} {K : Act → World → Prop} {Q : Exit → Act → World → Prop} {E : Prop}
    (hg : o.guard = none) (s x : Operand) (t : TypeId) (hop : o.op = Op.call { callee := Callee.builtin Builtin.append, args := #[s, x], argTypes := #[t, t] })
    (base : Nat) (e : TypeId) (i : TypeInfo) (size : Nat) (h1 : Tryz.prog.underlying t = some (.slice e)) (h2 : Tryz.prog.info? e = some i) (h4 : i.size = size)
    (g k cap : Nat) (xs : List Value) (hs : a.eval s = .slice (some ⟨g, 0, none⟩) k cap) (hown : w.ownsRow base e size (.slice (some ⟨g, 0, none⟩) k cap) k xs) (ad : Addr) (m c : Nat) (news : List Value) (hx : a.eval x = .slice (some ad) m c) (hn : news.length = m * size)
    (hc : ∀ j u, news[j]? = some u → w.cell? (ad.add j) = some u) (h1c : ∀ u ∈ news, u.oneCell' = true) (b1 : k + m ≤ cap)
    (hK : ∀ w', w'.ownsRow base e size (.slice (some ⟨g, 0, none⟩) (k + m) cap) (k + m) (xs ++ news) → w.grownBy w' (some g) → K (a.put o.dst (.slice (some ⟨g, 0, none⟩) (k + m) cap)) w') :
    if Region.wanted o (yielded ops a.tmps) = true then Oper.wp Tryz.prog o a w K Q else E := by
  have hw : Region.wanted o (yielded ops a.tmps) = true := by simp [Region.wanted, hg]
  rw [if_pos hw]
  obtain ⟨w', hrun, r1, r2⟩ := run_append_fits (P := Tryz.prog) w base t o.type e i size h1 h2 h4 g k cap xs hown ad m c news hn hc h1c b1
  unfold Oper.wp
  simp [execOp, hop, resolve, invoke, builtin, hs, hx, hrun, Result.andThen]
  exact hK w' r1 r2
theorem digit_at (n : Int) (k : IntKind) (h0 : 0 ≤ n) (h1 : n < 16) (W : World) : (Instr.index 9 (.string ⟨#[48, 49, 50, 51, 52, 53, 54, 55, 56, 57, 97, 98, 99, 100, 101, 102]⟩) (.int k n)).run Tryz.prog W = .ok (.int .u8 ((Lib.Hx.digit n.toNat).toNat : Int)) W := by
  have h := run_index_string (P := Tryz.prog) W 9 Lib.Hx.tab k n Tryz.underlying9
  have hs : Lib.Hx.tab.size = 16 := by decide
  rw [dif_pos ⟨h0, by rw [hs]; exact_mod_cast h1⟩] at h
  refine h.trans ?_
  have : n.toNat < Lib.Hx.tab.size := by rw [hs]; omega
  have e : Lib.Hx.tab[n.toNat] = Lib.Hx.digit n.toNat := by
    unfold Lib.Hx.digit
    rw [← byte_get _ _ this, List.getElem?_eq_getElem (by simpa using this)]
    rfl
  rw [e]
end Go.Proofs.YtfeonjiiijdibaaGreatDoor

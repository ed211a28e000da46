import Derived.Test.YtgeonbkoihegnaaDoorShaRot
namespace Go.Proofs.Sha
def s0 (x : UInt32) : UInt32 := rotr x 7 ^^^ rotr x 18 ^^^ (x >>> 3)
def s1 (x : UInt32) : UInt32 := rotr x 17 ^^^ rotr x 19 ^^^ (x >>> 10)
/-- Four bytes as a word. -/
def word (a b c d : UInt8) : UInt32 := a.toUInt32 <<< 24 ||| b.toUInt32 <<< 16 ||| c.toUInt32 <<< 8 ||| d.toUInt32
/-- The first n words that a block is. -/
def sched (b : Nat → UInt8) : Nat → List UInt32
  | 0 => []
  | n + 1 =>
    let l := sched b n
    l ++ [if n < 16 then word (b (4 * n)) (b (4 * n + 1)) (b (4 * n + 2)) (b (4 * n + 3)) else l.getD (n - 16) 0 + s0 (l.getD (n - 15) 0) + l.getD (n - 7) 0 + s1 (l.getD (n - 2) 0)]
end Go.Proofs.Sha
namespace Go.Proofs.YtgeonbkoihegnaaDoor
open Go.RowKit
/-- Bytes, and words, as an array's value. -/
def byteVals (b : Nat → UInt8) (n : Nat) : Array Value := ((List.range n).map fun i => Value.int .u8 ((b i).toNat : Int)).toArray
def wordVals (f : Nat → UInt32) (n : Nat) : Array Value := ((List.range n).map fun i => Value.int .u32 ((f i).toNat : Int)).toArray
theorem size_wordVals (f : Nat → UInt32) (n : Nat) : (wordVals f n).size = n := by simp [wordVals]
theorem size_byteVals (f : Nat → UInt8) (n : Nat) : (byteVals f n).size = n := by simp [byteVals]
theorem s0_nat (x : UInt32) : bits BinOp.xor IntKind.u32 (bits BinOp.xor IntKind.u32 ((Sha.rotr x 7).toNat : Int) ((Sha.rotr x 18).toNat : Int)) ((x.toNat : Int) / 8) = ((Sha.s0 x).toNat : Int) := by
  have e := Sha.shr_nat x 3 (by decide)
  have f : (x.toNat : Int) / (8 : Int) = ((x >>> 3).toNat : Int) := e
  rw [f, Sha.xor_nat, Sha.xor_nat]
  rfl
theorem s1_nat (x : UInt32) : bits BinOp.xor IntKind.u32 (bits BinOp.xor IntKind.u32 ((Sha.rotr x 17).toNat : Int) ((Sha.rotr x 19).toNat : Int)) ((x.toNat : Int) / 1024) = ((Sha.s1 x).toNat : Int) := by
  have e := Sha.shr_nat x 10 (by decide)
  have f : (x.toNat : Int) / (1024 : Int) = ((x >>> 10).toNat : Int) := e
  rw [f, Sha.xor_nat, Sha.xor_nat]
  rfl
theorem add4_nat (a b c d : UInt32) : ((a.toNat : Int) + (b.toNat : Int) + (c.toNat : Int) + (d.toNat : Int)) % 4294967296 = ((a + b + c + d).toNat : Int) := by
  rw [UInt32.toNat_add, UInt32.toNat_add, UInt32.toNat_add]; omega
theorem rowIs_fill (w : World) (c : Array Value) (t : TypeId) (n : Nat) (v : Value) (hc : c = Array.replicate n v) : (w.alloc (.cells c t)).rowIs w.heap.size t n (fun _ => v) := by
  have h := World.rowIs_alloc w c t (fun _ => v) (fun i hi => by subst hc; simp at hi; simp [hi])
  rwa [hc, Array.size_replicate, ← hc] at h
theorem rowIs_bytes (w : World) (b : Nat → UInt8) (t : TypeId) (n : Nat) : (w.alloc (.cells (byteVals b n) t)).rowIs w.heap.size t n (fun i => .int .u8 ((b i).toNat : Int)) := by
  have h := World.rowIs_alloc w (byteVals b n) t (fun i => .int .u8 ((b i).toNat : Int)) (fun i hi => by simp [byteVals] at hi; simp [byteVals, hi])
  rwa [show (byteVals b n).size = n by simp [byteVals]] at h
theorem word_nat (a b c d : UInt8) : bits BinOp.or IntKind.u32 (bits BinOp.or IntKind.u32 (bits BinOp.or IntKind.u32 ((a.toNat : Int) * 16777216 % 4294967296) ((b.toNat : Int) * 65536 % 4294967296)) ((c.toNat : Int) * 256 % 4294967296)) (d.toNat : Int) = ((Sha.word a b c d).toNat : Int) := by
  have e1 := Sha.shl_nat a.toUInt32 24 (by decide)
  have e2 := Sha.shl_nat b.toUInt32 16 (by decide)
  have e3 := Sha.shl_nat c.toUInt32 8 (by decide)
  rw [UInt8.toNat_toUInt32] at e1 e2 e3
  have f1 : (a.toNat : Int) * (16777216 : Int) % (4294967296 : Int) = ((a.toUInt32 <<< 24).toNat : Int) := e1
  have f2 : (b.toNat : Int) * (65536 : Int) % (4294967296 : Int) = ((b.toUInt32 <<< 16).toNat : Int) := e2
  have f3 : (c.toNat : Int) * (256 : Int) % (4294967296 : Int) = ((c.toUInt32 <<< 8).toNat : Int) := e3
  rw [f1, f2, f3, Sha.or_nat, Sha.or_nat, ← UInt8.toNat_toUInt32 d, Sha.or_nat]
  rfl
theorem len66 : Tryd.prog.arrayLen 66 = 64 := by kernel_rfl
theorem arr66 : Tryd.prog.underlying 66 = some (.array (Tryd.prog.arrayLen 66) (Tryd.prog.elem 66)) := by kernel_rfl
theorem elem66 (w : World) : (sizeOf (Tryd.prog.elem 66)).run Tryd.prog w = .ok 1 w := by kernel_rfl
/-- Four bytes of a block. -/
theorem slice4 (g k : Nat) (hk : k < 16) (W : World) : (Instr.sliceAt 66 (.pointer (some ⟨g, 0, none⟩)) (some (.int .i64 (4 * (k : Int)))) (some (.int .i64 (4 * (k : Int) + 4))) (some (.int .i64 (4 * (k : Int) + 4)))).run Tryd.prog W = .ok (.slice (some ⟨g, 4 * k, none⟩) 4 4) W := by
  rw [run_sliceAt_array_lhm W 66 _ arr66 .i64 .i64 .i64 _ _ _ (by omega) (by omega) (by omega) (by rw [len66]; omega), elem66]
  have e1 : (4 * (k : Int)).toNat = 4 * k := by omega
  have e2 : (4 * (k : Int) + 4).toNat = 4 * k + 4 := by omega
  simp only [Result.andThen, slicedAt]
  rw [e1, e2, if_neg (by omega)]
  simp [Addr.add]
  omega
/-- The words that were reckoned, as cells. -/
def wordsTo (l : List UInt32) (k j : Nat) : Value := if j < k then .int .u32 ((l.getD j 0).toNat : Int) else .int .u32 0
theorem wordsTo_step (l : List UInt32) (k : Nat) (n : Int) (hn : n = ((l.getD k 0).toNat : Int)) (j : Nat) : (if j = k then (Value.int .u32 n) else wordsTo l k j) = wordsTo l (k + 1) j := by
  unfold wordsTo
  by_cases h : j = k
  · subst h; simp [hn]
  · rw [if_neg h]
    by_cases h1 : j < k
    · rw [if_pos h1, if_pos (by omega)]
    · rw [if_neg h1, if_neg (by omega)]
theorem sched_length (b : Nat → UInt8) (n : Nat) : (Sha.sched b n).length = n := by
  induction n with
  | zero => rfl
  | succ n ih => simp [Sha.sched, ih]
theorem sched_at (b : Nat → UInt8) (n m k : Nat) (hk : k < n) (hn : n ≤ m) : (Sha.sched b m).getD k 0 = (Sha.sched b n).getD k 0 := by
  induction m with
  | zero => omega
  | succ m ih =>
    by_cases h : n = m + 1
    · rw [h]
    · rw [← ih (by omega)]
      have := sched_length b m
      simp only [Sha.sched, List.getD_eq_getElem?_getD]
      rw [List.getElem?_append_left (by omega)]
theorem sched_word (b : Nat → UInt8) (k : Nat) (hk : k < 16) : (Sha.sched b 64).getD k 0 = Sha.word (b (4 * k)) (b (4 * k + 1)) (b (4 * k + 2)) (b (4 * k + 3)) := by
  rw [sched_at b (k + 1) 64 k (by omega) (by omega)]
  have := sched_length b k
  simp only [Sha.sched, List.getD_eq_getElem?_getD, if_pos hk]
  rw [List.getElem?_append_right (by omega)]
  simp [this]
theorem sched_next (b : Nat → UInt8) (k : Nat) (hk : ¬ k < 16) (h64 : k < 64) : (Sha.sched b 64).getD k 0 = (Sha.sched b 64).getD (k - 16) 0 + Sha.s0 ((Sha.sched b 64).getD (k - 15) 0) + (Sha.sched b 64).getD (k - 7) 0 + Sha.s1 ((Sha.sched b 64).getD (k - 2) 0) := by
  rw [sched_at b (k + 1) 64 k (by omega) (by omega), sched_at b k 64 (k - 16) (by omega) (by omega), sched_at b k 64 (k - 15) (by omega) (by omega), sched_at b k 64 (k - 7) (by omega) (by omega), sched_at b k 64 (k - 2) (by omega) (by omega)]
  have := sched_length b k
  simp only [Sha.sched, List.getD_eq_getElem?_getD, if_neg hk]
  rw [List.getElem?_append_right (by omega)]
  simp [this]
set_option maxRecDepth 100000 in
set_option maxHeartbeats 1000000 in
theorem sched_any (b : Nat → UInt8) (w : World) :
    Calls Tryd.prog 45 #[.agg (byteVals b 64)] w fun e w' => e = .returned (.agg (wordVals (fun i => (Sha.sched b 64).getD i 0) 64)) ∧ Below w.heap.size w w' := by
  obtain ⟨l, hl⟩ : ∃ l, l = Sha.sched b 64 := ⟨_, rfl⟩
  rw [← hl]
  have HL := Lib.hid hl
  clear hl
  go_enter Tryd.func45, Tryd.ntmps45
  go_wp2
  go_loopw [11] (fun vi wr => ∃ k : Nat, k ≤ 16 ∧ vi = .int .i64 k ∧ Hid (wr.rowIs w.heap.size 66 64 (fun i => .int .u8 ((b i).toNat : Int))) ∧ Hid (wr.rowIs (w.heap.size + 1) 89 64 (fun _ => .int .u32 0)) ∧ Hid (wr.rowIs (w.heap.size + 1 + 1) 89 64 (wordsTo l k)) ∧ Hid (Bl w.heap.size w wr)) (fun vi _ => 16 - (intOf vi).toNat)
  case atStart =>
    refine ⟨0, Nat.zero_le _, rfl, ((rowIs_bytes w b 66 64).alloc _).alloc _, ?_, ?_, (((Bl.start w).alloc _).alloc _).alloc _⟩
    · have := (rowIs_fill (w.alloc (Obj.cells (byteVals b 64) 66)) _ 89 64 (.int .u32 0) rfl).alloc (Obj.cells (Array.replicate 64 (.int .u32 0)) 89)
      rw [World.size_alloc] at this
      exact this
    · have := rowIs_fill ((w.alloc (Obj.cells (byteVals b 64) 66)).alloc (Obj.cells (Array.replicate 64 (.int .u32 0)) 89)) _ 89 64 (.int .u32 0) rfl
      rw [World.size_alloc, World.size_alloc] at this
      exact this.congr (fun j _ => by simp [wordsTo])
  case round =>
    obtain ⟨k, hk, rfl, hrb, hr1, hr2, hbl⟩ := hrel
    by_cases hlt : k < 16
    · have q0 : wr.cell? ⟨w.heap.size, 4 * k, none⟩ = some (.int .u8 ((b (4 * k)).toNat : Int)) := hrb.out.cell (by omega)
      have q1 : wr.cell? ⟨w.heap.size, 4 * k + 1, none⟩ = some (.int .u8 ((b (4 * k + 1)).toNat : Int)) := hrb.out.cell (by omega)
      have q2 : wr.cell? ⟨w.heap.size, 4 * k + 2, none⟩ = some (.int .u8 ((b (4 * k + 2)).toNat : Int)) := hrb.out.cell (by omega)
      have q3 : wr.cell? ⟨w.heap.size, 4 * k + 3, none⟩ = some (.int .u8 ((b (4 * k + 3)).toNat : Int)) := hrb.out.cell (by omega)
      have q4 : wr.cell? ⟨w.heap.size + 1 + 1, k, none⟩ = some (wordsTo l k k) := hr2.out.cell (by omega)
      have q5 : wr.frozen? ⟨w.heap.size + 1 + 1, k, none⟩ = false := hr2.out.frozen _
      have hsl := slice4 w.heap.size k hlt
      go_wp2
      go_region
      all_goals go_wp2
      all_goals go_roundw
      case rel =>
        refine ⟨k + 1, by omega, by go_num, (hrb.out.setOther (by simp; omega) _).drew, (hr1.out.setOther (by simp) _).drew, ((hr2.out.set _ _).congr (fun j _ => ?_)).drew, (hbl.out.setCell (by simp; omega) _).drew⟩
        refine wordsTo_step l k _ ?_ j
        have m32 : ∀ c : UInt8, (c.toNat : Int) % 4294967296 = (c.toNat : Int) := fun c => by have := c.toNat_lt; omega
        rw [m32, m32, m32, m32, word_nat, HL.out, sched_word b k hlt]
      case measure => simp [intOf]; omega
    · have hk2 : k = 16 := by omega
      subst hk2
      rw [show ((16 : Nat) : Int) = 16 from rfl]
      go_wp2
      go_loopw [6] (fun vi wr => ∃ k : Nat, 16 ≤ k ∧ k ≤ 64 ∧ vi = .int .i64 k ∧ Hid (wr.rowIs (w.heap.size + 1) 89 64 (fun _ => .int .u32 0)) ∧ Hid (wr.rowIs (w.heap.size + 1 + 1) 89 64 (wordsTo l k)) ∧ Hid (Bl w.heap.size w wr)) (fun vi _ => 64 - (intOf vi).toNat)
      case atStart => exact ⟨16, Nat.le_refl _, by omega, rfl, hr1, hr2, hbl⟩
      case round =>
        clear hrb hr1 hr2 hbl
        obtain ⟨k, hk16, hk, rfl, hr1, hr2, hbl⟩ := hrel
        by_cases hlt : k < 64
        · obtain ⟨x, hx⟩ : ∃ x, x = l.getD (k - 15) 0 := ⟨_, rfl⟩
          obtain ⟨y, hy⟩ : ∃ y, y = l.getD (k - 2) 0 := ⟨_, rfl⟩
          obtain ⟨u, hu⟩ : ∃ u, u = l.getD (k - 16) 0 := ⟨_, rfl⟩
          obtain ⟨v, hv⟩ : ∃ v, v = l.getD (k - 7) 0 := ⟨_, rfl⟩
          have q0 : wr.cell? ⟨w.heap.size + 1 + 1, k - 15, none⟩ = some (.int .u32 (x.toNat : Int)) := by rw [hr2.out.cell (by omega), wordsTo, if_pos (by omega), hx]
          have q1 : wr.cell? ⟨w.heap.size + 1 + 1, k - 2, none⟩ = some (.int .u32 (y.toNat : Int)) := by rw [hr2.out.cell (by omega), wordsTo, if_pos (by omega), hy]
          have q2 : wr.cell? ⟨w.heap.size + 1 + 1, k - 16, none⟩ = some (.int .u32 (u.toNat : Int)) := by rw [hr2.out.cell (by omega), wordsTo, if_pos (by omega), hu]
          have q3 : wr.cell? ⟨w.heap.size + 1 + 1, k - 7, none⟩ = some (.int .u32 (v.toNat : Int)) := by rw [hr2.out.cell (by omega), wordsTo, if_pos (by omega), hv]
          have q4 : wr.cell? ⟨w.heap.size + 1 + 1, k, none⟩ = some (wordsTo l k k) := hr2.out.cell (by omega)
          have q5 : wr.frozen? ⟨w.heap.size + 1 + 1, k, none⟩ = false := hr2.out.frozen _
          have HK : Hid (l.getD k 0 = u + Sha.s0 x + v + Sha.s1 y) := by
            have := sched_next b k (by omega) hlt
            rw [← HL.out, ← hx, ← hy, ← hu, ← hv] at this
            exact this
          have n15 : ((k : Int) - 15).toNat = k - 15 := by omega
          have n2 : ((k : Int) - 2).toNat = k - 2 := by omega
          have n16 : ((k : Int) - 16).toNat = k - 16 := by omega
          have n7 : ((k : Int) - 7).toNat = k - 7 := by omega
          have p15 : 0 ≤ (k : Int) - 15 := by omega
          have p2 : 0 ≤ (k : Int) - 2 := by omega
          have p16 : 0 ≤ (k : Int) - 16 := by omega
          have p7 : 0 ≤ (k : Int) - 7 := by omega
          have r15 : (k : Int) - 15 < 64 := by omega
          have r2 : (k : Int) - 2 < 64 := by omega
          have r16 : (k : Int) - 16 < 64 := by omega
          have r7 : (k : Int) - 7 < 64 := by omega
          clear hx hy hu hv
          go_wp2
          go_quiet (fail)
          go_wp2_with fail
          refine (rot7 _ _).mono ?_
          rintro e w' ⟨rfl, rfl⟩
          go_wp2_with fail
          refine (rot18 _ _).mono ?_
          rintro e w' ⟨rfl, rfl⟩
          go_wp2_with fail
          refine (rot17 _ _).mono ?_
          rintro e w' ⟨rfl, rfl⟩
          go_wp2_with fail
          refine (rot19 _ _).mono ?_
          rintro e w' ⟨rfl, rfl⟩
          go_wp2_with fail
          go_region
          all_goals go_wp2
          all_goals go_roundw
          case rel =>
            refine ⟨k + 1, by omega, by omega, by go_num, (hr1.out.setOther (by simp) _), ((hr2.out.set _ _).congr (fun j _ => ?_)), (hbl.out.setCell (by simp; omega) _).drewN _⟩
            refine wordsTo_step l k _ ?_ j
            rw [HK.out]
            rw [s0_nat, s1_nat, add4_nat]
          case measure => simp [intOf]; omega
        · have hk2 : k = 64 := by omega
          subst hk2
          rw [show ((64 : Nat) : Int) = 64 from rfl]
          have g1 := rowIs_arr hr1.out
          have g2 := rowIs_arr (hr2.out.congr (g := fun i => .int .u32 ((l.getD i 0).toNat : Int)) (fun j hj => by simp [wordsTo, hj]))
          have G1 := Lib.hid g1
          have G2 := Lib.hid g2
          clear g1 g2
          go_wp2_with (first | (with_reducible refine wpList_load_row rfl 89 _ rfl (w.heap.size + 1 + 1) rfl 89 _ (0, 0) _ G2.out Tryd.underlying89 rfl (by rw [List.size_toArray, List.length_map, List.length_range]; kernel_rfl) ?_) | (with_reducible refine wpList_store_row rfl 89 _ _ rfl (w.heap.size + 1) _ rfl rfl 89 _ G1.out (by rw [List.size_toArray, List.length_map, List.length_range]; kernel_rfl) (by simp) (by simp [Value.oneCell']) ?_))
          refine bodyPost_ret (v := .agg (wordVals (fun i => l.getD i 0) 64)) (results_cell_row rfl _ _ (w.heap.size + 1) 89 _ (0, 0) _ rfl (heap_setRow _ _ _ _ _ _ G1.out) Tryd.underlying89 rfl (by rw [size_wordVals]; kernel_rfl)) rfl ⟨rfl, (hbl.out.setRow (by omega) _).1⟩
end Go.Proofs.YtgeonbkoihegnaaDoor

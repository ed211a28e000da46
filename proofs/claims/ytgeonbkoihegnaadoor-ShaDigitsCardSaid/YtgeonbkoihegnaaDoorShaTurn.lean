import Derived.Test.YtgeonbkoihegnaaDoorShaSched
import Derived.Deep.WholeRow
import Derived.Maps.AppendAt
namespace Go.Proofs.Sha
def start : List UInt32 := [1779033703, 3144134277, 1013904242, 2773480762, 1359893119, 2600822924, 528734635, 1541459225]
def added : List UInt32 := [1116352408, 1899447441, 3049323471, 3921009573, 961987163, 1508970993, 2453635748, 2870763221, 3624381080, 310598401, 607225278, 1426881987, 1925078388, 2162078206, 2614888103, 3248222580, 3835390401, 4022224774, 264347078, 604807628, 770255983, 1249150122, 1555081692, 1996064986, 2554220882, 2821834349, 2952996808, 3210313671, 3336571891, 3584528711, 113926993, 338241895, 666307205, 773529912, 1294757372, 1396182291, 1695183700, 1986661051, 2177026350, 2456956037, 2730485921, 2820302411, 3259730800, 3345764771, 3516065817, 3600352804, 4094571909, 275423344, 430227734, 506948616, 659060556, 883997877, 958139571, 1322822218, 1537002063, 1747873779, 1955562222, 2024104815, 2227730452, 2361852424, 2428436474, 2756734187, 3204031479, 3329325298]
/-- The eight variables of a round. -/
structure St where
  a : UInt32
  b : UInt32
  c : UInt32
  d : UInt32
  e : UInt32
  f : UInt32
  g : UInt32
  h : UInt32
def t1 (s : St) (k x : UInt32) : UInt32 := s.h + (rotr s.e 6 ^^^ rotr s.e 11 ^^^ rotr s.e 25) + ((s.e &&& s.f) ^^^ (~~~s.e &&& s.g)) + k + x
def t2 (s : St) : UInt32 := (rotr s.a 2 ^^^ rotr s.a 13 ^^^ rotr s.a 22) + ((s.a &&& s.b) ^^^ (s.a &&& s.c) ^^^ (s.b &&& s.c))
def step (s : St) (k x : UInt32) : St := ⟨t1 s k x + t2 s, s.a, s.b, s.c, s.d + t1 s k x, s.e, s.f, s.g⟩
def rounds (l : List UInt32) (s : St) : Nat → St
  | 0 => s
  | n + 1 => step (rounds l s n) (added.getD n 0) (l.getD n 0)
def ofWords (ws : Nat → UInt32) : St := ⟨ws 0, ws 1, ws 2, ws 3, ws 4, ws 5, ws 6, ws 7⟩
def St.at (s : St) : Nat → UInt32
  | 0 => s.a
  | 1 => s.b
  | 2 => s.c
  | 3 => s.d
  | 4 => s.e
  | 5 => s.f
  | 6 => s.g
  | _ => s.h
/-- The words behind a block. -/
def compress (ws : Nat → UInt32) (b : Nat → UInt8) : Nat → UInt32 := fun i => ws i + (rounds (sched b 64) (ofWords ws) 64).at i
end Go.Proofs.Sha
namespace Go.Proofs.YtgeonbkoihegnaaDoor
open Go.RowKit
/-- The two tables lie where they are laid. -/
def Laid (w : World) : Prop := (∃ t fr, w.heap[0]? = some (.cells (wordVals (fun i => Sha.start.getD i 0) 8) t fr)) ∧ (∃ t fr, w.heap[1]? = some (.cells (wordVals (fun i => Sha.added.getD i 0) 64) t fr))
/-- A hash's cells. -/
def hashF (ws : Nat → UInt32) (b : Nat → UInt8) (used : Nat) (all : UInt64) (i : Nat) : Value :=
  if i < 8 then .int .u32 ((ws i).toNat : Int) else if i < 72 then .int .u8 ((b (i - 8)).toNat : Int) else if i = 72 then .int .i64 (used : Int) else .int .u64 (all.toNat : Int)
/-- The value of an array at an index. -/
theorem index_words (t e : TypeId) (n : Nat) (f : Nat → UInt32) (h : Tryd.prog.underlying t = some (.array n e)) (hs : ∀ w, (sizeOf e).run Tryd.prog w = .ok 1 w) (ha : ∀ w, (isAgg e).run Tryd.prog w = .ok false w) (i : Nat) (hi : i < n) (w : World) :
    (Instr.index t (.agg (wordVals f n)) (.int .i64 (i : Int))).run Tryd.prog w = .ok (.int .u32 ((f i).toNat : Int)) w := by
  unfold Instr.index
  simp only [asIntOf, Sem.run_bind, Sem.run_pure, Result.andThen_ok, run_underlying h]
  rw [if_pos (by omega)]
  simp only [Sem.run_bind, hs, Result.andThen_ok, part, ha, Nat.mul_one, Int.toNat_natCast]
  simp [wordVals, hi]
theorem range_block (g : Nat) (t : TypeId) (ws : Nat → UInt32) (b : Nat → UInt8) (u : Nat) (all : UInt64) (w : World) (hr : w.rowIs g t 74 (hashF ws b u all)) : w.rangeAt g 8 ((List.range 64).map fun i => Value.int .u8 ((b i).toNat : Int)) := by
  intro j v hj
  have hlt : j < 64 := by
    rcases Nat.lt_or_ge j 64 with h | h
    · exact h
    · rw [List.getElem?_eq_none (by simpa using h)] at hj; cases hj
  rw [hr.cell (by omega)]
  simp [hlt] at hj
  subst hj
  unfold hashF
  rw [if_neg (by omega), if_pos (by omega)]
  simp
theorem not_nat (x : UInt32) : bits BinOp.xor IntKind.u32 IntKind.u32.max (x.toNat : Int) = ((~~~x).toNat : Int) := by
  have e : (IntKind.u32.max : Int) = ((4294967295 : UInt32).toNat : Int) := by decide
  have f : (~~~x) = (4294967295 : UInt32) ^^^ x := by
    apply UInt32.eq_of_toBitVec_eq
    show ~~~x.toBitVec = (4294967295 : UInt32).toBitVec ^^^ x.toBitVec
    rw [BitVec.not_def]
    rfl
  rw [e, Sha.xor_nat, f]
theorem t1_nat (s : Sha.St) (k x : UInt32) : ((s.h.toNat : Int) + bits BinOp.xor IntKind.u32 (bits BinOp.xor IntKind.u32 ((Sha.rotr s.e 6).toNat : Int) ((Sha.rotr s.e 11).toNat : Int)) ((Sha.rotr s.e 25).toNat : Int) + bits BinOp.xor IntKind.u32 (bits BinOp.and IntKind.u32 (s.e.toNat : Int) (s.f.toNat : Int)) (bits BinOp.and IntKind.u32 (bits BinOp.xor IntKind.u32 IntKind.u32.max (s.e.toNat : Int)) (s.g.toNat : Int)) + (k.toNat : Int) + (x.toNat : Int)) % 4294967296 = ((Sha.t1 s k x).toNat : Int) := by
  rw [not_nat, Sha.xor_nat, Sha.xor_nat, Sha.and_nat, Sha.and_nat, Sha.xor_nat, Sha.t1]
  rw [UInt32.toNat_add, UInt32.toNat_add, UInt32.toNat_add, UInt32.toNat_add]
  omega
theorem t2_nat (s : Sha.St) : (bits BinOp.xor IntKind.u32 (bits BinOp.xor IntKind.u32 ((Sha.rotr s.a 2).toNat : Int) ((Sha.rotr s.a 13).toNat : Int)) ((Sha.rotr s.a 22).toNat : Int) + bits BinOp.xor IntKind.u32 (bits BinOp.xor IntKind.u32 (bits BinOp.and IntKind.u32 (s.a.toNat : Int) (s.b.toNat : Int)) (bits BinOp.and IntKind.u32 (s.a.toNat : Int) (s.c.toNat : Int))) (bits BinOp.and IntKind.u32 (s.b.toNat : Int) (s.c.toNat : Int))) % 4294967296 = ((Sha.t2 s).toNat : Int) := by
  rw [Sha.xor_nat, Sha.xor_nat, Sha.and_nat, Sha.and_nat, Sha.and_nat, Sha.xor_nat, Sha.xor_nat, Sha.add_nat, Sha.t2]
set_option maxRecDepth 100000 in
set_option maxHeartbeats 1000000 in
theorem turn_any (g : Nat) (ws : Nat → UInt32) (b : Nat → UInt8) (u : Nat) (all : UInt64) (w : World) (hl : Laid w) (hg1 : 1 < g) (hr : w.rowIs g 68 74 (hashF ws b u all)) :
    Calls Tryd.prog 35 #[.pointer (some ⟨g, 0, none⟩)] w fun e w' => e = .returned (.tuple #[]) ∧ w'.rowIs g 68 74 (hashF (Sha.compress ws b) b 0 all) ∧ w.grownBy w' (some g) := by
  have c72 : w.cell? ⟨g, 72, none⟩ = some (.int .i64 (u : Int)) := hr.cell (by omega)
  have z72 : w.frozen? ⟨g, 72, none⟩ = false := hr.frozen _
  have hr1 : (w.setCell ⟨g, 72, none⟩ (.int .i64 0)).rowIs g 68 74 (hashF ws b 0 all) := (hr.set 72 _).congr (fun j hj => by
    by_cases h : j = 72
    · subst h; simp [hashF]
    · rw [if_neg h]; unfold hashF; simp [h])
  have HR1 := Lib.hid hr1
  have HL := Lib.hid hl
  have HG : Hid (w.grownBy (w.setCell ⟨g, 72, none⟩ (.int .i64 0)) (some g)) := by
    have : w.grownBy (w.setCell ⟨g, 72, none⟩ (.int .i64 0)) (some g) := ⟨rfl, rfl, rfl, by simp, fun i hi hne => by
      rw [heap_setCell_other _ _ _ _ (by simp at hne ⊢; omega)]⟩
    exact this
  clear hr hr1 hl
  go_enter Tryd.func35, Tryd.ntmps35
  obtain ⟨f, hff⟩ : ∃ f : Nat → UInt32, f = fun i => (Sha.sched b 64).getD i 0 := ⟨_, rfl⟩
  have HFF := Lib.hid hff
  clear hff
  go_wp2_with (with_reducible refine wpList_load_mid rfl 66 _ rfl g 8 rfl ((List.range 64).map fun i => Value.int .u8 ((b i).toNat : Int)) _ (range_block g _ ws b 0 all _ HR1.out) Tryd.underlying66 rfl (by rw [List.length_map, List.length_range]; kernel_rfl) ?_)
  refine (sched_any b _).mono ?_
  rintro e w1 ⟨rfl, hb1⟩
  rw [← HFF.out]
  go_wp2_with (with_reducible refine wpList_store_row rfl 89 _ _ rfl w1.heap.size _ rfl rfl 89 _ (heap_alloc_last _ _) (by rw [size_wordVals]; kernel_rfl) (by simp [size_wordVals]) (by simp [wordVals, Value.oneCell']) ?_)
  rw [World.setRow_alloc_new]
  obtain ⟨W, hW⟩ : ∃ W, W = w1.alloc (Obj.cells (wordVals f 64) 89) := ⟨_, rfl⟩
  have hgs : g < (w.setCell ⟨g, 72, none⟩ (.int .i64 0)).heap.size := HR1.out.lt
  have hgs1 : g < w1.heap.size := Nat.lt_of_lt_of_le hgs hb1.size
  have hrg : W.rowIs g 68 74 (hashF ws b 0 all) := by
    rw [hW]
    exact (HR1.out.of_block (hb1.block g hgs)).alloc _
  have hrl : W.rowIs w1.heap.size 89 64 (fun i => .int .u32 ((f i).toNat : Int)) := by
    rw [hW]
    exact rowIs_of (heap_alloc_last w1 _)
  have hgr : w.grownBy W (some g) := by
    rw [hW]
    refine HG.out.trans ⟨?_, ?_, ?_, ?_, ?_⟩
    · exact hb1.os
    · exact hb1.tape
    · exact hb1.output
    · have := hb1.size; simp at this ⊢; omega
    · intro k hk hne
      rw [Below.heap_alloc _ _ _ (Nat.lt_of_lt_of_le (by simpa using hk) hb1.size), hb1.block k (by simpa using hk)]
  have hla : Laid W := by
    obtain ⟨⟨t0, f0, e0⟩, ⟨t1, f1, e1⟩⟩ := HL.out
    have b0 := (Array.getElem?_eq_some_iff.1 e0).1
    have b1 := (Array.getElem?_eq_some_iff.1 e1).1
    exact ⟨⟨t0, f0, by rw [hgr.block 0 b0 (by simp; omega)]; exact e0⟩, ⟨t1, f1, by rw [hgr.block 1 b1 (by simp; omega)]; exact e1⟩⟩
  rw [← hW]
  have hB : w1.heap.size ≠ g := by omega
  generalize w1.heap.size = B at hrl hB ⊢
  clear hW hb1 hgs hgs1 HR1 HG c72 z72 HL
  have q0 : W.cell? ⟨g, 0, none⟩ = some (.int .u32 ((ws 0).toNat : Int)) := hrg.cell (by omega)
  have q1 : W.cell? ⟨g, 1, none⟩ = some (.int .u32 ((ws 1).toNat : Int)) := hrg.cell (by omega)
  have q2 : W.cell? ⟨g, 2, none⟩ = some (.int .u32 ((ws 2).toNat : Int)) := hrg.cell (by omega)
  have q3 : W.cell? ⟨g, 3, none⟩ = some (.int .u32 ((ws 3).toNat : Int)) := hrg.cell (by omega)
  have q4 : W.cell? ⟨g, 4, none⟩ = some (.int .u32 ((ws 4).toNat : Int)) := hrg.cell (by omega)
  have q5 : W.cell? ⟨g, 5, none⟩ = some (.int .u32 ((ws 5).toNat : Int)) := hrg.cell (by omega)
  have q6 : W.cell? ⟨g, 6, none⟩ = some (.int .u32 ((ws 6).toNat : Int)) := hrg.cell (by omega)
  have q7 : W.cell? ⟨g, 7, none⟩ = some (.int .u32 ((ws 7).toNat : Int)) := hrg.cell (by omega)
  have HRG := Lib.hid hrg
  have HRL := Lib.hid hrl
  have HGR := Lib.hid hgr
  obtain ⟨k1, hkk⟩ : ∃ k1 : Nat → UInt32, k1 = fun i => Sha.added.getD i 0 := ⟨_, rfl⟩
  obtain ⟨_, t1, f1, hk1⟩ := hla
  rw [← hkk] at hk1
  have HKK := Lib.hid hkk
  clear hkk
  have HK1 := Lib.hid hk1
  clear hrg hrl hgr hk1
  go_quiet (fail)
  go_wp2_with fail
  go_quiet (fail)
  go_wp2_with (refine wpList_load_row rfl 89 (.global 1) rfl 1 rfl t1 _ f1 _ HK1.out Tryd.underlying89 rfl (by rw [size_wordVals]; kernel_rfl) ?_)
  have len89 : Tryd.prog.underlying 89 = some (.array 64 64) := by kernel_rfl
  have HIX : Hid (∀ (k : Nat), k < 64 → ∀ w : World, (Instr.index 89 (.agg (wordVals k1 64)) (.int .i64 (k : Int))).run Tryd.prog w = .ok (.int .u32 ((k1 k).toNat : Int)) w) := fun k hk w => index_words 89 64 64 k1 len89 (fun _ => by kernel_rfl) (fun _ => by kernel_rfl) k hk w
  clear len89 q0 q1 q2 q3 q4 q5 q6 q7
  go_loopw [3, 4, 5, 6, 7, 8, 9, 10, 66] (fun v3 v4 v5 v6 v7 v8 v9 v10 vi wr => ∃ (k : Nat) (s : Sha.St), k ≤ 64 ∧ vi = .int .i64 k ∧ v3 = .int .u32 (s.a.toNat : Int) ∧ v4 = .int .u32 (s.b.toNat : Int) ∧ v5 = .int .u32 (s.c.toNat : Int) ∧ v6 = .int .u32 (s.d.toNat : Int) ∧ v7 = .int .u32 (s.e.toNat : Int) ∧ v8 = .int .u32 (s.f.toNat : Int) ∧ v9 = .int .u32 (s.g.toNat : Int) ∧ v10 = .int .u32 (s.h.toNat : Int) ∧ Hid (s = Sha.rounds (Sha.sched b 64) (Sha.ofWords ws) k) ∧ Hid (∃ q, wr = W.drewN q)) (fun _ _ _ _ _ _ _ _ vi _ => 64 - (intOf vi).toNat)
  case atStart => exact ⟨0, Sha.ofWords ws, Nat.zero_le _, rfl, rfl, rfl, rfl, rfl, rfl, rfl, rfl, rfl, rfl, ⟨_, rfl⟩⟩
  case round =>
    obtain ⟨k, s, hk, rfl, rfl, rfl, rfl, rfl, rfl, rfl, rfl, rfl, HS, q, rfl⟩ := hrel
    by_cases hlt : k < 64
    · have hix := HIX.out k hlt
      have hw : W.cell? ⟨B, k, none⟩ = some (.int .u32 ((f k).toNat : Int)) := HRL.out.cell hlt
      go_wp2_with fail
      go_quiet (first | (go_at_call_of 46 (Value.int IntKind.i64 6); exact quietly_same (rot6 _ _)) | (go_at_call_of 46 (Value.int IntKind.i64 11); exact quietly_same (rot11 _ _)) | (go_at_call_of 46 (Value.int IntKind.i64 25); exact quietly_same (rot25 _ _)))
      go_wp2_with fail
      refine (rot2 _ _).mono ?_
      rintro e w' ⟨rfl, rfl⟩
      go_wp2_with fail
      refine (rot13 _ _).mono ?_
      rintro e w' ⟨rfl, rfl⟩
      go_wp2_with fail
      refine (rot22 _ _).mono ?_
      rintro e w' ⟨rfl, rfl⟩
      go_wp2_with fail
      go_roundw
      case rel =>
        refine ⟨k + 1, Sha.step s (k1 k) (f k), by omega, by go_num, ?_, rfl, rfl, rfl, ?_, rfl, rfl, rfl, ?_, ⟨_, rfl⟩⟩
        · show Value.int .u32 _ = Value.int .u32 (((Sha.t1 s (k1 k) (f k) + Sha.t2 s).toNat : Nat) : Int)
          rw [t1_nat, t2_nat, Sha.add_nat]
        · show Value.int .u32 _ = Value.int .u32 (((s.d + Sha.t1 s (k1 k) (f k)).toNat : Nat) : Int)
          rw [t1_nat, Sha.add_nat]
        · show Sha.step s (k1 k) (f k) = _
          rw [Sha.rounds, ← HS.out, HKK.out, HFF.out]
      case measure => simp [intOf]; omega
    · have hk2 : k = 64 := by omega
      subst hk2
      rw [show ((64 : Nat) : Int) = 64 from rfl]
      go_wp2_with fail
      have len65 : Tryd.prog.underlying 65 = some (.array 8 64) := by kernel_rfl
      have HIX8 : Hid (∀ (k : Nat), k < 8 → ∀ w : World, (Instr.index 65 (.agg #[.int .u32 (s.a.toNat : Int), .int .u32 (s.b.toNat : Int), .int .u32 (s.c.toNat : Int), .int .u32 (s.d.toNat : Int), .int .u32 (s.e.toNat : Int), .int .u32 (s.f.toNat : Int), .int .u32 (s.g.toNat : Int), .int .u32 (s.h.toNat : Int)]) (.int .i64 (k : Int))).run Tryd.prog w = .ok (.int .u32 ((s.at k).toNat : Int)) w) := fun k hk w => index_words 65 64 8 s.at len65 (fun _ => by kernel_rfl) (fun _ => by kernel_rfl) k hk w
      clear len65
      go_loopw [137] (fun vi wr => ∃ (k : Nat), k ≤ 8 ∧ vi = .int .i64 k ∧ Hid (wr.rowIs g 68 74 (hashF (fun i => if i < k then Sha.compress ws b i else ws i) b 0 all)) ∧ Hid (w.grownBy wr (some g))) (fun vi _ => 8 - (intOf vi).toNat)
      case atStart => exact ⟨0, Nat.zero_le _, rfl, HRG.out, HGR.out.trans ⟨rfl, rfl, rfl, Nat.le_refl _, fun _ _ _ => rfl⟩⟩
      case round =>
        obtain ⟨k, hk, rfl, hrg, hgr⟩ := hrel
        by_cases hlt : k < 8
        · have hix := HIX8.out k hlt
          obtain ⟨x, hx⟩ : ∃ x, x = ws k := ⟨_, rfl⟩
          have hc : wr.cell? ⟨g, k, none⟩ = some (.int .u32 (x.toNat : Int)) := by
            rw [hrg.out.cell (by omega), hashF, if_pos hlt, if_neg (Nat.lt_irrefl _), hx]
          have hz : wr.frozen? ⟨g, k, none⟩ = false := hrg.out.frozen _
          have HX := Lib.hid hx
          clear hx
          go_wp2_with fail
          go_region
          all_goals go_wp2_with fail
          all_goals go_roundw
          case rel =>
            refine ⟨k + 1, by omega, by go_num, ((hrg.out.set _ _).congr (fun j hj => ?_)).drew, ?_⟩
            · rw [Sha.add_nat]
              unfold hashF
              by_cases hjk : j = k
              · subst hjk
                rw [if_pos rfl, if_pos hlt]
                show _ = Value.int .u32 (((if j < j + 1 then Sha.compress ws b j else ws j).toNat : Nat) : Int)
                rw [if_pos (Nat.lt_succ_self _), Sha.compress, ← HS.out, HX.out]
              · rw [if_neg hjk]
                by_cases h8 : j < 8
                · rw [if_pos h8, if_pos h8]
                  show Value.int .u32 (((if j < k then Sha.compress ws b j else ws j).toNat : Nat) : Int) = Value.int .u32 (((if j < k + 1 then Sha.compress ws b j else ws j).toNat : Nat) : Int)
                  by_cases h : j < k
                  · rw [if_pos h, if_pos (by omega)]
                  · rw [if_neg h, if_neg (by omega)]
                · rw [if_neg h8, if_neg h8]
            · exact hgr.out.trans ⟨rfl, rfl, rfl, by simp, fun i hi hne => by
                show (wr.setCell _ _).heap[i]? = _
                rw [heap_setCell_other _ _ _ _ (by simp at hne ⊢; omega)]⟩
          case measure => simp [intOf]; omega
        · have hk2 : k = 8 := by omega
          subst hk2
          go_wp2_with fail
          go_end0
          refine ⟨rfl, hrg.out.congr (fun j hj => ?_), hgr.out⟩
          unfold hashF
          by_cases h8 : j < 8
          · rw [if_pos h8, if_pos h8]
            show Value.int .u32 (((if j < 8 then Sha.compress ws b j else ws j).toNat : Nat) : Int) = _
            rw [if_pos h8]
          · rw [if_neg h8, if_neg h8]
end Go.Proofs.YtgeonbkoihegnaaDoor

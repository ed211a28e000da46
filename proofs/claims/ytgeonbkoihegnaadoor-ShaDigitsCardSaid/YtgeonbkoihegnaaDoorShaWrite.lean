import Derived.Test.YtgeonbkoihegnaaDoorShaTurn
import Derived.Lib.LazyBuf
import Derived.Lib.SliceRun
import Derived.Lib.IndexBytes
import Derived.StillTailTactics
namespace Go.Proofs.Sha
def blockOf (m : List UInt8) (q : Nat) : Nat → UInt8 := fun i => m.getD (64 * q + i) 0
/-- The words behind the first q blocks. -/
def wordsN (m : List UInt8) : Nat → Nat → UInt32
  | 0 => fun i => start.getD i 0
  | q + 1 => compress (wordsN m q) (blockOf m q)
def wordsOf (m : List UInt8) : Nat → UInt32 := wordsN m (m.length / 64)
theorem sched_congr (b b' : Nat → UInt8) (h : ∀ i, i < 64 → b i = b' i) (n : Nat) (hn : n ≤ 64) : sched b n = sched b' n := by
  induction n with
  | zero => rfl
  | succ n ih =>
    have := ih (by omega)
    simp only [sched, this]
    by_cases h16 : n < 16
    · rw [if_pos h16, if_pos h16, h _ (by omega), h _ (by omega), h _ (by omega), h _ (by omega)]
    · rw [if_neg h16, if_neg h16]
theorem compress_congr (ws : Nat → UInt32) (b b' : Nat → UInt8) (h : ∀ i, i < 64 → b i = b' i) : compress ws b = compress ws b' := by
  unfold compress
  rw [sched_congr b b' h 64 (Nat.le_refl _)]
theorem getD_left (m s : List UInt8) (i : Nat) (h : i < m.length) : (m ++ s).getD i 0 = m.getD i 0 := by
  simp only [List.getD_eq_getElem?_getD]
  rw [List.getElem?_append_left h]
theorem getD_right (m s : List UInt8) (i : Nat) (h : m.length ≤ i) : (m ++ s).getD i 0 = s.getD (i - m.length) 0 := by
  simp only [List.getD_eq_getElem?_getD]
  rw [List.getElem?_append_right h]
theorem wordsN_append (m s : List UInt8) (q : Nat) (h : 64 * q ≤ m.length) : wordsN (m ++ s) q = wordsN m q := by
  induction q with
  | zero => rfl
  | succ q ih =>
    rw [wordsN, wordsN, ih (by omega)]
    refine compress_congr _ _ _ (fun i hi => ?_)
    exact getD_left m s _ (by omega)
/-- A block that is not yet whole. -/
def Tail (m : List UInt8) (b : Nat → UInt8) : Prop := ∀ i, i < m.length % 64 → b i = m.getD (64 * (m.length / 64) + i) 0
/-- Bytes laid behind the tail. -/
def lay (b : Nat → UInt8) (u : Nat) (t : List UInt8) : Nat → UInt8 := fun i => if u ≤ i ∧ i < u + t.length then t.getD (i - u) 0 else b i
theorem lay_at (m t : List UInt8) (b : Nat → UInt8) (hb : Tail m b) (i : Nat) (hi : i < m.length % 64 + t.length) : lay b (m.length % 64) t i = (m ++ t).getD (64 * (m.length / 64) + i) 0 := by
  unfold lay
  by_cases h : m.length % 64 ≤ i
  · rw [if_pos ⟨h, hi⟩, getD_right _ _ _ (by omega)]
    congr 1; omega
  · rw [if_neg (fun hh => h hh.1), getD_left _ _ _ (by omega), hb i (by omega)]
theorem tail_part (m t : List UInt8) (b : Nat → UInt8) (hb : Tail m b) (h : m.length % 64 + t.length < 64) : Tail (m ++ t) (lay b (m.length % 64) t) ∧ wordsOf (m ++ t) = wordsOf m ∧ (m ++ t).length % 64 = m.length % 64 + t.length := by
  have e1 : (m ++ t).length % 64 = m.length % 64 + t.length := by rw [List.length_append]; omega
  have e2 : (m ++ t).length / 64 = m.length / 64 := by rw [List.length_append]; omega
  refine ⟨fun i hi => ?_, ?_, e1⟩
  · rw [e1] at hi
    rw [e2, lay_at m t b hb i hi]
  · unfold wordsOf
    rw [e2, wordsN_append _ _ _ (by omega)]
theorem tail_whole (m t : List UInt8) (b : Nat → UInt8) (hb : Tail m b) (h : m.length % 64 + t.length = 64) : wordsOf (m ++ t) = compress (wordsOf m) (lay b (m.length % 64) t) ∧ (m ++ t).length % 64 = 0 := by
  have e1 : (m ++ t).length % 64 = 0 := by rw [List.length_append]; omega
  have e2 : (m ++ t).length / 64 = m.length / 64 + 1 := by rw [List.length_append]; omega
  refine ⟨?_, e1⟩
  unfold wordsOf
  rw [e2, wordsN, wordsN_append _ _ _ (by omega)]
  exact compress_congr _ _ _ (fun i hi => (lay_at m t b hb i (by omega)).symm)
end Go.Proofs.Sha
namespace Go.Proofs.YtgeonbkoihegnaaDoor
open Go.RowKit
/-- What a world holds of a hash: what was written, and how many bytes it says. -/
def Hs (g : Nat) (m : List UInt8) (all : UInt64) (w : World) : Prop := ∃ b, w.rowIs g 68 74 (hashF (Sha.wordsOf m) b (m.length % 64) all) ∧ Sha.Tail m b
theorem Laid.grown {w w' : World} (h : Laid w) {g : Nat} (hg : 1 < g) (hw : w.grownBy w' (some g)) : Laid w' := by
  obtain ⟨⟨t0, f0, e0⟩, ⟨t1, f1, e1⟩⟩ := h
  have b0 := (Array.getElem?_eq_some_iff.1 e0).1
  have b1 := (Array.getElem?_eq_some_iff.1 e1).1
  exact ⟨⟨t0, f0, by rw [hw.block 0 b0 (by simp; omega)]; exact e0⟩, ⟨t1, f1, by rw [hw.block 1 b1 (by simp; omega)]; exact e1⟩⟩
/-- 'copy(dst, s)' of a string: as many bytes as there is room for. -/
theorem run_copy_str (w : World) (dT sT ty elem : TypeId) (b o dLen dCap n : Nat) (t : ByteArray) (hn : n = min t.size dLen)
    (hu : Tryd.prog.underlying dT = some (.slice elem)) (hz : ∀ w, (Go.sizeOf elem).run Tryd.prog w = .ok 1 w)
    (hc : ∀ j, j < n → (w.cell? ⟨b, o + j, none⟩).isSome = true) (hf : ∀ j, j < n → w.frozen? ⟨b, o + j, none⟩ = false) :
    (Builtin.copy_ #[dT, sT] ty #[.slice (some ⟨b, o, none⟩) dLen dCap, .string t]).run Tryd.prog w = .ok (goInt n) (w.setCells b o ((t.data.toList.take n).map fun x => Value.int .u8 (x.toNat : Int))) := by
  have hl : ((t.data.toList.take n).map fun x => Value.int .u8 (x.toNat : Int)).length = n := by rw [List.length_map, List.length_take, ← Lib.size_eq]; omega
  have hst := run_storeCells_cells (P := Tryd.prog) b o ((t.data.toList.take n).map fun x => Value.int .u8 (x.toNat : Int)) 0 w (by rw [hl]; simpa using hc) (by rw [hl]; simpa using hf) (by
    intro v hv
    obtain ⟨x, _, rfl⟩ := List.mem_map.1 hv
    rfl)
  have hmin : Nat.min t.size dLen = n := hn.symm
  simp [Builtin.copy_, run_underlying hu, Builtin.lenOf, Builtin.firstCells, hz, hmin]
  rw [← List.map_take, hst]
  rfl
theorem wpList_copy_str {ops : Array Oper} {rest : List Oper} {o : Oper} {a : Act} {w : World} {Q : Exit → Act → World → Prop} (hg : o.guard = none) (d x : Operand) (dT sT : TypeId)
    (hop : o.op = Op.call { callee := Callee.builtin Builtin.copy, args := #[d, x], argTypes := #[dT, sT] }) (elem : TypeId) (hu : Tryd.prog.underlying dT = some (.slice elem)) (hz : ∀ w, (Go.sizeOf elem).run Tryd.prog w = .ok 1 w)
    (b off dLen dCap : Nat) (hd : a.eval d = .slice (some ⟨b, off, none⟩) dLen dCap) (t : ByteArray) (hx : a.eval x = .string t) (n : Nat) (hn : n = min t.size dLen)
    (hc : ∀ j, j < n → (w.cell? ⟨b, off + j, none⟩).isSome = true) (hf : ∀ j, j < n → w.frozen? ⟨b, off + j, none⟩ = false)
    (hK : wpList Tryd.prog ops Q rest (a.put o.dst (goInt n)) (w.setCells b off ((t.data.toList.take n).map fun x => Value.int .u8 (x.toNat : Int)))) : wpList Tryd.prog ops Q (o :: rest) a w := by
  refine wpList_plain hg fun K hK' => ?_
  have hrun := run_copy_str w dT sT o.type elem b off dLen dCap n t hn hu hz hc hf
  unfold Oper.wp
  simp [execOp, hop, resolve, invoke, builtin, hd, hx, hrun, Result.andThen]
  rw [← List.map_take]
  exact hK' _ _ hK
theorem slice_from (g u : Nat) (hu : u < 64) (W : World) : (Instr.sliceAt 66 (.pointer (some ⟨g, 8, none⟩)) (some (.int .i64 (u : Int))) none none).run Tryd.prog W = .ok (.slice (some ⟨g, 8 + u, none⟩) (64 - u) (64 - u)) W := by
  rw [run_sliceAt_array_l W 66 _ arr66 .i64 _ (by omega) (by rw [len66]; omega), elem66, len66]
  simp only [Result.andThen, slicedAt]
  rw [Int.toNat_natCast, if_neg (by omega)]
  simp [Addr.add]
theorem grown_cells {w : World} (g : Nat) : ∀ (vs : List Value) (o : Nat) (w' : World), w.grownBy w' (some g) → w.grownBy (w'.setCells g o vs) (some g)
  | [], _, _, h => h
  | v :: r, o, w', h => grown_cells g r (o + 1) _ (h.trans ⟨rfl, rfl, rfl, by simp, fun i hi hne => by
      rw [heap_setCell_other _ _ _ _ (by simp at hne ⊢; omega)]⟩)
theorem grown_cell {w w' : World} {g : Nat} (h : w.grownBy w' (some g)) (o : Nat) (v : Value) : w.grownBy (w'.setCell ⟨g, o, none⟩ v) (some g) := grown_cells g [v] o w' h
/-- A hash's cells behind bytes that were laid. -/
theorem hash_lay {w : World} {g : Nat} {t : TypeId} {ws : Nat → UInt32} {b : Nat → UInt8} {u : Nat} {all : UInt64} (h : w.rowIs g t 74 (hashF ws b u all)) (k : Nat) (l : List UInt8) (hl : k + l.length ≤ 64) :
    (w.setCells g (8 + k) (l.map fun x => Value.int .u8 (x.toNat : Int))).rowIs g t 74 (hashF ws (Sha.lay b k l) u all) := by
  refine (rowIs_setCells _ _ _ _ h).congr (fun j hj => ?_)
  rw [List.length_map]
  by_cases h1 : 8 + k ≤ j ∧ j < 8 + k + l.length
  · rw [if_pos h1]
    unfold hashF Sha.lay
    rw [if_neg (by omega), if_pos (by omega), if_pos (by omega), show j - 8 - k = j - (8 + k) by omega]
    have : j - (8 + k) < l.length := by omega
    simp [this]
  · rw [if_neg h1]
    unfold hashF Sha.lay
    by_cases h8 : j < 8
    · rw [if_pos h8, if_pos h8]
    · rw [if_neg h8, if_neg h8]
      by_cases h72 : j < 72
      · rw [if_pos h72, if_pos h72, if_neg (by omega)]
      · rw [if_neg h72, if_neg h72]
theorem hash_used {w : World} {g : Nat} {t : TypeId} {ws : Nat → UInt32} {b : Nat → UInt8} {u : Nat} {all : UInt64} (h : w.rowIs g t 74 (hashF ws b u all)) (u' : Nat) (v : Int) (hv : v = (u' : Int)) :
    (w.setCell ⟨g, 72, none⟩ (.int .i64 v)).rowIs g t 74 (hashF ws b u' all) := by
  subst hv
  refine (h.set 72 _).congr (fun j hj => ?_)
  by_cases h1 : j = 72
  · subst h1; rw [if_pos rfl]; unfold hashF; rw [if_neg (by omega), if_neg (by omega), if_pos rfl]
  · rw [if_neg h1]; unfold hashF; rw [if_neg h1, if_neg h1]
theorem hash_all {w : World} {g : Nat} {t : TypeId} {ws : Nat → UInt32} {b : Nat → UInt8} {u : Nat} {all : UInt64} (h : w.rowIs g t 74 (hashF ws b u all)) (all' : UInt64) (v : Int) (hv : v = (all'.toNat : Int)) :
    (w.setCell ⟨g, 73, none⟩ (.int .u64 v)).rowIs g t 74 (hashF ws b u all') := by
  subst hv
  refine (h.set 73 _).congr (fun j hj => ?_)
  by_cases h1 : j = 73
  · subst h1; rw [if_pos rfl]; unfold hashF; rw [if_neg (by omega), if_neg (by omega), if_neg (by omega)]
  · rw [if_neg h1]; unfold hashF
    by_cases h8 : j < 8
    · rw [if_pos h8, if_pos h8]
    · rw [if_neg h8, if_neg h8]
      by_cases h72 : j < 72
      · rw [if_pos h72, if_pos h72]
      · rw [if_neg h72, if_neg h72, if_pos (by omega), if_pos (by omega)]
theorem hash_blk {w : World} {g : Nat} {t : TypeId} {ws : Nat → UInt32} {b : Nat → UInt8} {u : Nat} {all : UInt64} (h : w.rowIs g t 74 (hashF ws b u all)) : w.cell? ⟨g, 72, none⟩ = some (.int .i64 (u : Int)) ∧ w.frozen? ⟨g, 72, none⟩ = false ∧ w.cell? ⟨g, 73, none⟩ = some (.int .u64 (all.toNat : Int)) ∧ w.frozen? ⟨g, 73, none⟩ = false :=
  ⟨h.cell (by omega), h.frozen _, h.cell (by omega), h.frozen _⟩
theorem all_nat (all : UInt64) (n : Nat) (hn : n ≤ 1048576) : ((all.toNat : Int) + (n : Int)) % 18446744073709551616 = ((all + UInt64.ofNat n).toNat : Int) := by
  rw [UInt64.toNat_add, UInt64.toNat_ofNat_of_lt' (by show n < 18446744073709551616; omega)]
  omega
/-- A hash that is written, between its blocks. -/
def Hw (g : Nat) (M : List UInt8) (all : UInt64) (r : ByteArray) (w : World) : Prop := ∃ m, m ++ r.data.toList = M ∧ Hs g m all w
set_option maxRecDepth 100000 in
set_option maxHeartbeats 1000000 in
theorem write_any (g : Nat) (m : List UInt8) (all : UInt64) (s : ByteArray) (w : World) (hl : Laid w) (hg1 : 1 < g) (hs : s.size ≤ 1048576) (hh : Hs g m all w) :
    Calls Tryd.prog 24 #[.pointer (some ⟨g, 0, none⟩), .string s] w fun e w' => e = .returned (.pointer (some ⟨g, 0, none⟩)) ∧ Hs g (m ++ s.data.toList) (all + UInt64.ofNat s.size) w' ∧ w.grownBy w' (some g) := by
  obtain ⟨b, hr, hb⟩ := hh
  obtain ⟨c72, z72, c73, z73⟩ := hash_blk hr
  have HR := Lib.hid hr
  have HB := Lib.hid hb
  have HL := Lib.hid hl
  obtain ⟨M, hM⟩ : ∃ M, M = m ++ s.data.toList := ⟨_, rfl⟩
  obtain ⟨al, hal⟩ : ∃ al, al = all + UInt64.ofNat s.size := ⟨_, rfl⟩
  rw [← hM, ← hal]
  have HM := Lib.hid hM
  have HA := Lib.hid hal
  clear hr hb hl hM hal
  go_enter Tryd.func24, Tryd.ntmps24
  go_wp2_with fail
  clear c72 z72 c73 z73
  go_loopw [1] (fun vs wr => ∃ r : ByteArray, r.size ≤ s.size ∧ vs = .string r ∧ Hid (Hw g M al r wr) ∧ Hid (w.grownBy wr (some g))) (fun vs _ => match vs with | .string r => r.size | _ => 0)
  case atStart => exact ⟨s, Nat.le_refl _, rfl, ⟨m, HM.out.symm, b, hash_all HR.out al _ (by rw [HA.out]; exact all_nat all s.size hs), HB.out⟩, grown_cell (World.grownBy.refl w _) 73 _⟩
  case round =>
    clear HR HB HM HA
    obtain ⟨r, hrs, rfl, HW, HG⟩ := hrel
    by_cases hre : r.size = 0
    · have he : r.toList.isEmpty = true := by
        rw [ByteArray.toList_eq, List.isEmpty_iff]; exact List.eq_nil_of_length_eq_zero (by rw [Nib.len_of]; exact hre)
      have HRE := Lib.hid hre
      clear hre
      go_wp2_with fail
      go_ret
      obtain ⟨m1, e1, h1⟩ := HW.out
      have : r.data.toList = [] := List.eq_nil_of_length_eq_zero (by rw [Nib.len_of]; exact HRE.out)
      rw [this, List.append_nil] at e1
      subst e1
      exact ⟨rfl, h1, HG.out⟩
    · have he : r.toList.isEmpty = false := by
        rw [ByteArray.toList_eq]
        cases hl : r.data.toList with
        | nil => exact absurd (by rw [← Nib.len_of, hl]; rfl) hre
        | cons a t => rfl
      obtain ⟨m1, e1, b, hr, hb⟩ := HW.out
      obtain ⟨u, hu⟩ : ∃ u, u = m1.length % 64 := ⟨_, rfl⟩
      have hu64 : u < 64 := by omega
      rw [← hu] at hr
      obtain ⟨c72, z72, c73, z73⟩ := hash_blk hr
      have hsl := slice_from g u hu64
      obtain ⟨n, hn⟩ : ∃ n, n = min r.size (64 - u) := ⟨_, rfl⟩
      have hn1 : n ≤ r.size := by omega
      have hn2 : u + n ≤ 64 := by omega
      have hn3 : 0 < n := by omega
      have HN := Lib.hid hn
      have HU := Lib.hid hu
      have HR := Lib.hid hr
      have HB := Lib.hid hb
      have E1 := Lib.hid e1
      have HZ : Hid (∀ w, (Go.sizeOf 5).run Tryd.prog w = .ok 1 w) := fun _ => by kernel_rfl
      have HCC : Hid (∀ j, j < n → (wr.drew.cell? ⟨g, 8 + u + j, none⟩).isSome = true) := fun j hj => by
        rw [World.cell?_drew, hr.cell (i := 8 + u + j) (by omega)]; rfl
      have HFF : Hid (∀ j, j < n → wr.drew.frozen? ⟨g, 8 + u + j, none⟩ = false) := fun j hj => hr.frozen _
      have HL2 : Hid ((wr.drew.setCells g (8 + u) ((r.data.toList.take n).map fun x => Value.int .u8 (x.toNat : Int))).rowIs g 68 74 (hashF (Sha.wordsOf m1) (Sha.lay b u (r.data.toList.take n)) u al)) := hash_lay (World.rowIs.drew hr) u (r.data.toList.take n) (by rw [List.length_take]; omega)
      clear hn hu hr hb e1
      go_wp2_with fail
      go_still_tail 9, (by kernel_rfl)
      refine wpList_copy_str rfl (.tmp 25) (.tmp 26) 46 9 rfl 5 Tryd.underlying46 HZ.out g (8 + u) (64 - u) (64 - u) rfl r rfl n HN.out HCC.out HFF.out ?_
      obtain ⟨W, hW⟩ : ∃ W, W = wr.drew.setCells g (8 + u) ((r.data.toList.take n).map fun x => Value.int .u8 (x.toNat : Int)) := ⟨_, rfl⟩
      change wpList _ _ _ _ _ (wr.drew.setCells g (8 + u) ((r.data.toList.take n).map fun x => Value.int .u8 (x.toNat : Int)))
      rw [← hW]
      have hl2 := HL2.out
      rw [← hW] at hl2
      have d72 : W.cell? ⟨g, 72, none⟩ = some (.int .i64 (u : Int)) := (hash_blk hl2).1
      have y72 : W.frozen? ⟨g, 72, none⟩ = false := (hash_blk hl2).2.1
      have hgW : w.grownBy W (some g) := by
        rw [hW]
        exact grown_cells g _ _ _ (HG.out.trans ⟨rfl, rfl, rfl, Nat.le_refl _, fun _ _ _ => rfl⟩)
      have HWL := Lib.hid hl2
      have HWG := Lib.hid hgW
      clear hW hl2 hgW HL2 HR HCC HFF HZ c72 z72 c73 z73
      by_cases hfull : u + n = 64
      · have hf : ((u : Int) + (n : Int) == 64) = true := by simp; omega
        have HFU := Lib.hid hfull
        clear hfull
        go_wp2_with fail
        refine (turn_any g (Sha.wordsOf m1) (Sha.lay b u (r.data.toList.take n)) (u + n) al _ (HL.out.grown hg1 (grown_cell HWG.out 72 _)) hg1 (hash_used HWL.out (u + n) _ (by omega))).mono ?_
        rintro e w2 ⟨rfl, hr2, hg2⟩
        have HR2 := Lib.hid hr2
        have HG2 := Lib.hid hg2
        clear hr2 hg2
        go_wp2_with fail
        go_roundw
        case rel =>
          have ht : (r.data.toList.take n).length = n := by rw [List.length_take, Nib.len_of]; omega
          have hfu := HFU.out
          have huu := HU.out
          obtain ⟨tw1, tw2⟩ := Sha.tail_whole m1 (r.data.toList.take n) b HB.out (by rw [ht, ← huu]; exact hfu)
          refine ⟨r.extract n r.size, ?_, rfl, ⟨m1 ++ r.data.toList.take n, ?_, Sha.lay b u (r.data.toList.take n), ?_, ?_⟩, (grown_cell HWG.out 72 _).trans HG2.out⟩
          · rw [← Nib.len_of, Lib.extract_to_end, List.length_drop, Nib.len_of]; omega
          · rw [Lib.extract_to_end, List.append_assoc, List.take_append_drop]; exact E1.out
          · rw [tw1, tw2, ← huu]; exact HR2.out
          · intro i hi; rw [tw2] at hi; omega
        case measure =>
          show (r.extract n r.size).size < r.size
          rw [← Nib.len_of, Lib.extract_to_end, List.length_drop, Nib.len_of]; omega
      · have hf : ((u : Int) + (n : Int) == 64) = false := by simp; omega
        have HFU := Lib.hid hfull
        clear hfull
        go_wp2_with fail
        go_roundw
        case rel =>
          have ht : (r.data.toList.take n).length = n := by rw [List.length_take, Nib.len_of]; omega
          have hfu := HFU.out
          have huu := HU.out
          obtain ⟨tp1, tp2, tp3⟩ := Sha.tail_part m1 (r.data.toList.take n) b HB.out (by rw [ht, ← huu]; omega)
          refine ⟨r.extract n r.size, ?_, rfl, ⟨m1 ++ r.data.toList.take n, ?_, Sha.lay b u (r.data.toList.take n), ?_, ?_⟩, grown_cell HWG.out 72 _⟩
          · rw [← Nib.len_of, Lib.extract_to_end, List.length_drop, Nib.len_of]; omega
          · rw [Lib.extract_to_end, List.append_assoc, List.take_append_drop]; exact E1.out
          · rw [tp2, tp3, ht, ← huu]; exact hash_used HWL.out (u + n) _ (by omega)
          · rw [huu]; exact tp1
        case measure =>
          show (r.extract n r.size).size < r.size
          rw [← Nib.len_of, Lib.extract_to_end, List.length_drop, Nib.len_of]; omega
end Go.Proofs.YtgeonbkoihegnaaDoor

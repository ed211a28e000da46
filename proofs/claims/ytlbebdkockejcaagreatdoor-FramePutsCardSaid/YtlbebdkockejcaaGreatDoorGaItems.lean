/-
  Merged: RlpGet, RlpSplit, Shelf, RlpList, RlpEach, RlpIs, RlpItems.
-/
import Derived.Test.YtlbebdkockejcaaGreatDoorGaAs
import Derived.Shelf.Strings.Builder1
import Derived.Shelf.Strings.Builder2
import Derived.Shelf.Strings.OnBuilder
import Derived.Test.YtlbebdkockejcaaGreatDoorProg
import Derived.RangeFuncNested
import Derived.RangeFuncBound
import Derived.RangeFuncCalls
import Derived.RangeFuncLeaves
import Derived.RangeFuncBox
import Derived.Shelf.Abstract
import Derived.Shelf.RegionOpen
import Derived.OwnWalkIn
import Derived.TacticsInMore
import Derived.LoopNIn
import Derived.LoopIn
import Derived.Maps.AppendAt
namespace Go.Proofs.Rlp
theorem first_ok {s : List UInt8} {l : Bool} {f n : Nat} (h : first s = .ok (l, f, n)) : f + n ≤ s.length ∧ 1 ≤ f + n := by
  rcases s with _ | ⟨c, r⟩
  · simp [first] at h
  · rw [first] at h
    by_cases h1 : c < 128
    · rw [if_pos h1] at h
      simp only [Except.ok.injEq, Prod.mk.injEq] at h
      obtain ⟨_, rfl, rfl⟩ := h
      simp
    · rw [if_neg h1] at h
      by_cases h2 : c < 192
      · rw [if_pos h2] at h
        rcases hs : size (c :: r) (c.toNat - 128) with e | ⟨f', n'⟩
        · simp [hs] at h
        · simp only [hs] at h
          have h3 := size_ok hs
          by_cases h4 : f' = 1 ∧ n' = 1 ∧ own (r.take 1) = true
          · simp [h4] at h
          · rw [if_neg h4] at h
            simp only [Except.ok.injEq, Prod.mk.injEq] at h
            obtain ⟨_, rfl, rfl⟩ := h
            omega
      · rw [if_neg h2] at h
        rcases hs : size (c :: r) (c.toNat - 192) with e | ⟨f', n'⟩
        · simp [hs] at h
        · simp only [hs] at h
          have h3 := size_ok hs
          simp only [Except.ok.injEq, Prod.mk.injEq] at h
          obtain ⟨_, rfl, rfl⟩ := h
          omega
def mid (s : List UInt8) (f n : Nat) : List UInt8 := (s.take (f + n)).drop f
/-- The number that an item is. -/
def getnum (s : List UInt8) : Option Nat :=
  match first s with
  | .error _ => none
  | .ok (_, f, n) => if n > 8 then none else if num (val (mid s f n)) = s then some (val (mid s f n)) else none
theorem getnum_some {s : List UInt8} {v : Nat} (h : getnum s = some v) : num v = s := by
  unfold getnum at h
  split at h
  · cases h
  · split at h
    · cases h
    · split at h
      · next h2 => cases h; exact h2
      · cases h
theorem own_one {l : List UInt8} (h : own l = true) : ∃ b, l = [b] ∧ b < 128 := by
  rcases l with _ | ⟨b, _ | ⟨c, r⟩⟩
  · cases h
  · exact ⟨b, rfl, by simpa [own] using h⟩
  · cases h
/-- The first item, where a short text is put. -/
theorem first_text (b rest : List UInt8) (hb : b.length ≤ 55) : first (text b ++ rest) = if own b then .ok (false, 0, 1) else .ok (false, 1, b.length) := by
  by_cases h : own b = true
  · obtain ⟨c, rfl, hc⟩ := own_one h
    rw [text, if_pos h, if_pos h]
    simp [first, hc]
  · rw [text, if_neg h, if_neg h, head, if_pos hb]
    show first (UInt8.ofNat (128 + b.length) :: (b ++ rest)) = _
    have h1 : (UInt8.ofNat (128 + b.length)).toNat = 128 + b.length := by rw [UInt8.toNat_ofNat']; omega
    rw [first, if_neg (by rw [UInt8.lt_iff_toNat_lt, h1]; show ¬ _ < 128; omega), if_pos (by rw [UInt8.lt_iff_toNat_lt, h1]; show _ < 192; omega), h1]
    rw [show 128 + b.length - 128 = b.length by omega, size, if_pos hb, if_pos (by simp)]
    simp only
    rw [if_neg]
    rintro ⟨_, h2, h3⟩
    apply h
    rcases b with _ | ⟨x, _ | ⟨y, r⟩⟩
    · simp at h2
    · simpa using h3
    · simp at h2
theorem getnum_num (n : Nat) (hn : n < 18446744073709551616) : getnum (num n) = some n := by
  have hl := digs_length n
  have hf := first_text (digs n) [] (by omega)
  rw [List.append_nil] at hf
  have key : ∀ f m, mid (num n) f m = digs n → m ≤ 8 → first (num n) = .ok (false, f, m) → getnum (num n) = some n := by
    intro f m h1 h2 h3
    rw [getnum, h3]
    show (if m > 8 then none else if num (val (mid (num n) f m)) = num n then some (val (mid (num n) f m)) else none) = some n
    rw [if_neg (by omega), h1, val_digs n hn, if_pos rfl]
  by_cases h : own (digs n) = true
  · rw [if_pos h] at hf
    obtain ⟨c, hc, _⟩ := own_one h
    refine key 0 1 ?_ (by omega) hf
    rw [num, text, if_pos h, mid, hc]
    rfl
  · rw [if_neg h] at hf
    refine key 1 (digs n).length ?_ hl hf
    rw [num, text, if_neg h, head, if_pos (by omega), mid]
    show List.drop 1 (List.take (1 + (digs n).length) (_ :: digs n)) = digs n
    rw [Nat.add_comm 1, List.take_succ_cons]
    simp
end Go.Proofs.Rlp
namespace Go.Proofs.YtlbebdkockejcaaGreatDoor
open Go.RowKit
set_option linter.unusedVariables false
set_option linter.unusedSimpArgs false
theorem toList_inj' {a b : ByteArray} (h : a.toList = b.toList) : a = b := by
  rw [ByteArray.toList_eq, ByteArray.toList_eq] at h
  exact ByteArray.ext (Array.toList_inj.1 h)
def getVal : Option Nat → Value
  | none => .tuple #[.int .u64 0, .int .i64 2]
  | some n => .tuple #[.int .u64 (n : Int), .int .i64 0]
set_option maxRecDepth 100000 in
set_option maxHeartbeats 1000000 in
/-- rlp.GetNum. -/
theorem getnum_any (s : ByteArray) (w : World) (hs : s.size ≤ 70368744177664) :
    Calls Tryz.prog 85 #[.string s] w fun e w' => e = .returned (getVal (Rlp.getnum s.data.toList)) ∧ Below w.heap.size w w' := by
  have hz := first_any s w hs
  rcases hT : Rlp.first s.data.toList with e | ⟨l, f, n⟩
  · have hR : Rlp.getnum s.data.toList = none := by rw [Rlp.getnum, hT]
    rw [hR]
    simp only [hT, firstVal, faultAt] at hz
    have HZ := Lib.hid hz
    clear hz hT hR
    go_enter Tryz.func85, Tryz.ntmps85
    go_wp2_with fail
    refine HZ.out.mono ?_
    rintro e w1 ⟨rfl, bw⟩
    have BW := Lib.hid bw
    clear bw
    go_wp2_with fail
    go_returns
    exact ⟨rfl, BW.out.alloc BW.out.size _⟩
  · have hok := (Rlp.first_ok hT).1
    rw [Nib.len_of] at hok
    simp only [hT, firstVal] at hz
    have hX := extract_size s f n hok
    have hXl : (s.extract f (f + n)).data.toList = Rlp.mid s.data.toList f n := by rw [extract_list]; rfl
    obtain ⟨X, hXE⟩ : ∃ X, X = s.extract f (f + n) := ⟨_, rfl⟩
    rw [← hXE] at hz hX hXl
    have hR : Rlp.getnum s.data.toList = if n > 8 then none else if Rlp.num (Rlp.val X.data.toList) = s.data.toList then some (Rlp.val X.data.toList) else none := by
      rw [Rlp.getnum, hT, hXl]
    have HR := Lib.hid hR
    have HZ := Lib.hid hz
    clear hz hT hR hXl hXE
    by_cases h8 : n > 8
    · rw [show Rlp.getnum s.data.toList = none by rw [HR.out, if_pos h8]]
      go_enter Tryz.func85, Tryz.ntmps85
      go_wp2_with fail
      refine HZ.out.mono ?_
      rintro e w1 ⟨rfl, bw⟩
      have BW := Lib.hid bw
      clear bw
      go_wp2_with fail
      go_returns
      exact ⟨rfl, BW.out.alloc BW.out.size _⟩
    · have hv := fun W : World => value_any X W (by omega)
      have hvl : Rlp.val X.data.toList < 18446744073709551616 := by
        have h1 := Rlp.val_lt X.data.toList
        rw [Nib.len_of, hX] at h1
        have h2 : 256 ^ n ≤ 256 ^ 8 := Nat.pow_le_pow_right (by decide) (by omega)
        omega
      obtain ⟨v, hve⟩ : ∃ v, v = Rlp.val X.data.toList := ⟨_, rfl⟩
      rw [← hve] at hvl
      simp only [← hve] at hv
      rw [← hve] at HR
      have hnum := fun W : World => num_any v W hvl
      obtain ⟨Y, hY⟩ : ∃ Y, Y = Nib.bs (Rlp.num v) := ⟨_, rfl⟩
      simp only [← hY] at hnum
      have HV := Lib.hid hv
      have HN := Lib.hid hnum
      have HY := Lib.hid hY
      clear hv hnum hve hY
      by_cases he : Y = s
      · have hq : (Y.toList == s.toList) = true := by rw [he]; exact beq_self_eq_true _
        have hE : Rlp.num v = s.data.toList := by rw [← he, HY.out]; rfl
        rw [show Rlp.getnum s.data.toList = some v by rw [HR.out, if_neg h8, if_pos hE]]
        clear hE
        have HE := Lib.hid he
        clear he
        go_enter Tryz.func85, Tryz.ntmps85
        go_wp2_with fail
        refine HZ.out.mono ?_
        rintro e w1 ⟨rfl, bw⟩
        have BW := Lib.hid bw
        clear bw
        go_wp2_with fail
        refine (HV.out _).mono ?_
        rintro e w2 ⟨rfl, rfl⟩
        go_wp2_with fail
        refine (HN.out _).mono ?_
        rintro e w3 ⟨rfl, bw3⟩
        have BW3 := Lib.hid bw3
        clear bw3
        go_wp2_with fail
        go_returns
        exact ⟨rfl, ((BW.out.alloc BW.out.size _).trans (BW3.out.mono (by have := BW.out.size; simp; omega)))⟩
      · have hq : (Y.toList == s.toList) = false := by
          rw [beq_eq_false_iff_ne]
          intro h
          exact he (toList_inj' h)
        have hE : ¬ Rlp.num v = s.data.toList := by
          intro h
          apply he
          rw [HY.out, h]
          exact Nib.bs_of s
        rw [show Rlp.getnum s.data.toList = none by rw [HR.out, if_neg h8, if_neg hE]]
        clear hE
        have HE := Lib.hid he
        clear he
        go_enter Tryz.func85, Tryz.ntmps85
        go_wp2_with fail
        refine HZ.out.mono ?_
        rintro e w1 ⟨rfl, bw⟩
        have BW := Lib.hid bw
        clear bw
        go_wp2_with fail
        refine (HV.out _).mono ?_
        rintro e w2 ⟨rfl, rfl⟩
        go_wp2_with fail
        refine (HN.out _).mono ?_
        rintro e w3 ⟨rfl, bw3⟩
        have BW3 := Lib.hid bw3
        clear bw3
        go_wp2_with fail
        go_returns
        exact ⟨rfl, ((BW.out.alloc BW.out.size _).trans (BW3.out.mono (by have := BW.out.size; simp; omega)))⟩
end Go.Proofs.YtlbebdkockejcaaGreatDoor
namespace Go.Proofs.YtlbebdkockejcaaGreatDoor
open Go.RowKit
set_option linter.unusedVariables false
set_option linter.unusedSimpArgs false
/-- What errors.errorType holds. -/
def Laid2 (w : World) : Prop := w.cell? ⟨0, 0, none⟩ = some (rt 94)
theorem Laid2.lt {w : World} (h : Laid2 w) : 0 < w.heap.size := World.block_lt_of_cell? w ⟨0, 0, none⟩ h
theorem Laid2.on {w w' : World} (h : Laid2 w) {B : Nat} (k : Below B w w') (hB : w.heap.size ≤ B) : Laid2 w' := by
  have h2 := h.lt
  unfold Laid2 at *
  rw [World.cell?_of_block (k.block _ (show 0 < B by omega))]
  exact h
def splitVal (s : ByteArray) : Except Nat (Bool × Nat × Nat) → Value
  | .error n => .tuple #[.bool false, .string ByteArray.empty, .string ByteArray.empty, .int .i64 2]
  | .ok (l, f, n) => .tuple #[.bool l, .string (s.extract f (f + n)), .string (s.extract (f + n) s.size), .int .i64 0]
set_option maxRecDepth 100000 in
set_option maxHeartbeats 1000000 in
/-- rlp.Split. -/
theorem split_any (s : ByteArray) (w : World) (hs : s.size ≤ 70368744177664) (hl : Laid2 w) :
    Calls Tryz.prog 83 #[.string s] w fun e w' => e = .returned (splitVal s (Rlp.first s.data.toList)) ∧ Below w.heap.size w w' := by
  have hz := first_any s w hs
  have HL := Lib.hid hl
  clear hl
  rcases hT : Rlp.first s.data.toList with e | ⟨l, f, n⟩
  · simp only [hT, firstVal, faultAt] at hz
    have HZ := Lib.hid hz
    clear hz hT
    go_enter Tryz.func83, Tryz.ntmps83
    go_wp2_with fail
    refine HZ.out.mono ?_
    rintro e w1 ⟨rfl, bw⟩
    obtain ⟨w2, hw2⟩ : ∃ w2, w2 = w1.alloc (.cells #[.bool false, .string ByteArray.empty, .string ByteArray.empty] 142) := ⟨_, rfl⟩
    have bw2 : Below w.heap.size w w2 := by rw [hw2]; exact bw.alloc bw.size _
    have hwy := why_fault e 2 w2 (HL.out.on bw2 (Nat.le_refl _))
    have hc0 : w2.cell? ⟨w1.heap.size, 0, none⟩ = some (.bool false) := by rw [hw2]; simp
    have hc1 : w2.cell? ⟨w1.heap.size, 1, none⟩ = some (.string ByteArray.empty) := by rw [hw2]; simp
    have hc2 : w2.cell? ⟨w1.heap.size, 2, none⟩ = some (.string ByteArray.empty) := by rw [hw2]; simp
    have hlt : w1.heap.size < w2.heap.size := by rw [hw2]; simp
    have HW := Lib.hid hwy
    have HC0 := Lib.hid hc0
    have HC1 := Lib.hid hc1
    have HC2 := Lib.hid hc2
    have HB := Lib.hid bw2
    have HW2 := Lib.hid hw2
    clear hwy hc0 hc1 hc2 bw2 bw hw2
    go_wp2_with fail
    rw [← HW2.out]
    refine HW.out.mono ?_
    rintro e w3 ⟨rfl, bw3⟩
    have hd0 : w3.cell? ⟨w1.heap.size, 0, none⟩ = some (.bool false) := (World.cell?_of_block (bw3.block _ hlt)).trans HC0.out
    have hd1 : w3.cell? ⟨w1.heap.size, 1, none⟩ = some (.string ByteArray.empty) := (World.cell?_of_block (bw3.block _ hlt)).trans HC1.out
    have hd2 : w3.cell? ⟨w1.heap.size, 2, none⟩ = some (.string ByteArray.empty) := (World.cell?_of_block (bw3.block _ hlt)).trans HC2.out
    have HB3 := Lib.hid (HB.out.trans (bw3.mono HB.out.size))
    clear bw3
    go_wp2_with fail
    go_quiet (fail)
    go_wp2_with fail
    go_returns
    exact ⟨rfl, below_drewN HB3.out _⟩
  · simp only [hT, firstVal] at hz
    have HZ := Lib.hid hz
    clear hz hT
    obtain ⟨X, hX⟩ : ∃ X, X = s.extract f (f + n) := ⟨_, rfl⟩
    obtain ⟨Y, hY⟩ : ∃ Y, Y = s.extract (f + n) s.size := ⟨_, rfl⟩
    rw [← hX, ← hY] at HZ
    have HX := Lib.hid hX
    have HY := Lib.hid hY
    clear hX hY
    go_enter Tryz.func83, Tryz.ntmps83
    go_wp2_with fail
    refine HZ.out.mono ?_
    rintro e w1 ⟨rfl, bw⟩
    obtain ⟨w2, hw2⟩ : ∃ w2, w2 = w1.alloc (.cells #[.bool l, .string X, .string Y] 142) := ⟨_, rfl⟩
    have bw2 : Below w.heap.size w w2 := by rw [hw2]; exact bw.alloc bw.size _
    have hwy := why_nil w2
    have hc0 : w2.cell? ⟨w1.heap.size, 0, none⟩ = some (.bool l) := by rw [hw2]; simp
    have hc1 : w2.cell? ⟨w1.heap.size, 1, none⟩ = some (.string X) := by rw [hw2]; simp
    have hc2 : w2.cell? ⟨w1.heap.size, 2, none⟩ = some (.string Y) := by rw [hw2]; simp
    have hlt : w1.heap.size < w2.heap.size := by rw [hw2]; simp
    have HW := Lib.hid hwy
    have HC0 := Lib.hid hc0
    have HC1 := Lib.hid hc1
    have HC2 := Lib.hid hc2
    have HB := Lib.hid bw2
    have HW2 := Lib.hid hw2
    clear hwy hc0 hc1 hc2 bw2 bw hw2
    go_wp2_with fail
    rw [← HW2.out]
    refine HW.out.mono ?_
    rintro e w3 ⟨rfl, bw3⟩
    have hd0 : w3.cell? ⟨w1.heap.size, 0, none⟩ = some (.bool l) := (World.cell?_of_block (bw3.block _ hlt)).trans HC0.out
    have hd1 : w3.cell? ⟨w1.heap.size, 1, none⟩ = some (.string X) := (World.cell?_of_block (bw3.block _ hlt)).trans HC1.out
    have hd2 : w3.cell? ⟨w1.heap.size, 2, none⟩ = some (.string Y) := (World.cell?_of_block (bw3.block _ hlt)).trans HC2.out
    have HB3 := Lib.hid (HB.out.trans (bw3.mono HB.out.size))
    clear bw3
    go_wp2_with fail
    go_quiet (fail)
    go_wp2_with fail
    go_returns
    exact ⟨by rw [splitVal, ← HX.out, ← HY.out], below_drewN HB3.out _⟩
end Go.Proofs.YtlbebdkockejcaaGreatDoor
namespace Go.Proofs
open Go.Shelf
def Tryz.lays156_ren : Go.Shelf.Ren := ⟨fun | 156 => 57 | 165 => 78 | 166 => 79 | 169 => 80 | 240 => 94 | 241 => 95 | 276 => 104 | 277 => 105 | n => n, fun | 31 => 60 | 9 => 9 | 3 => 3 | 4 => 4 | 0 => 0 | 20 => 20 | 72 => 116 | 76 => 118 | 70 => 114 | 37 => 55 | 75 => 94 | 127 => 140 | 164 => 122 | 5 => 5 | 80 => 102 | n => n, fun | n => n⟩
theorem Tryz.lays156 : Go.Proofs.Lays.n156 Tryz.prog Tryz.lays156_ren := {
  mixed := by kernel_rfl
  f156 := Tryz.func57.trans (congrArg some (by kernel_rfl))
  f165 := Tryz.func78.trans (congrArg some (by kernel_rfl))
  f166 := Tryz.func79.trans (congrArg some (by kernel_rfl))
  f169 := Tryz.func80.trans (congrArg some (by kernel_rfl))
  f240 := Tryz.func94.trans (congrArg some (by kernel_rfl))
  f241 := Tryz.func95.trans (congrArg some (by kernel_rfl))
  f276 := Tryz.func104.trans (congrArg some (by kernel_rfl))
  f277 := Tryz.func105.trans (congrArg some (by kernel_rfl))
  t0 := Tryz.underlying0
  a0 := Tryz.isAgg0
  z0 := Tryz.sizeOf0
  v0 := Tryz.zeroValue0
  t3 := Tryz.underlying3
  a3 := Tryz.isAgg3
  z3 := Tryz.sizeOf3
  v3 := Tryz.zeroValue3
  t4 := Tryz.underlying4
  a4 := Tryz.isAgg4
  z4 := Tryz.sizeOf4
  v4 := Tryz.zeroValue4
  t9 := Tryz.underlying9
  a9 := Tryz.isAgg9
  z9 := Tryz.sizeOf9
  v9 := Tryz.zeroValue9
  t20 := Tryz.underlying20
  a20 := Tryz.isAgg20
  z20 := Tryz.sizeOf20
  v20 := Tryz.zeroValue20
  t31 := Tryz.underlying60
  a31 := Tryz.isAgg60
  z31 := Tryz.sizeOf60
  v31 := Tryz.zeroValue60
  t37 := Tryz.underlying55
  a37 := Tryz.isAgg55
  z37 := Tryz.sizeOf55
  v37 := Tryz.zeroValue55
  t70 := Tryz.underlying114
  a70 := Tryz.isAgg114
  z70 := Tryz.sizeOf114
  v70 := Tryz.zeroValue114
  t72 := Tryz.underlying116
  a72 := Tryz.isAgg116
  z72 := Tryz.sizeOf116
  v72 := Tryz.zeroValue116
  t75 := Tryz.underlying94
  a75 := Tryz.isAgg94
  z75 := Tryz.sizeOf94
  v75 := Tryz.zeroValue94
  t76 := Tryz.underlying118
  a76 := Tryz.isAgg118
  z76 := Tryz.sizeOf118
  v76 := Tryz.zeroValue118
  t127 := Tryz.underlying140
  a127 := Tryz.isAgg140
  z127 := Tryz.sizeOf140
  v127 := Tryz.zeroValue140
  t164 := Tryz.underlying122
  a164 := Tryz.isAgg122
  z164 := Tryz.sizeOf122
  v164 := Tryz.zeroValue122 }
theorem Tryz.Builder_Extra_156 : Builder.Extra Tryz.prog Tryz.lays156_ren := {
  sizeBuilder := by kernel_rfl
  liesBuilder := by kernel_rfl
  t5 := Tryz.underlying5
  a5 := Tryz.isAgg5
  z5 := Tryz.sizeOf5
  v5 := Tryz.zeroValue5
  infoByte := by kernel_rfl
  cellsByte := by kernel_rfl
  sizeByte := by kernel_rfl
  neB5 := by decide }
open Go.RowKit in
theorem Tryz.strings_Join_none (a : Option Addr) (c : Nat) (sep : ByteArray) (w : World) :
    Calls Tryz.prog 57 #[.slice a 0 c, .string sep] w fun e w' => e = .returned (.string ⟨#[]⟩) ∧ w' = w := Any.strings_Join_none Tryz.lays156 Tryz.Builder_Extra_156 a c sep w
open Go.RowKit in
theorem Tryz.strings_Join (bk o c : Nat) (xs : List ByteArray) (sep : ByteArray) (w : World) (hcells : ∀ (j : Nat) x, xs[j]? = some x → w.cell? ⟨bk, o + j, none⟩ = some (.string x)) (hbk : bk < w.heap.size) (hN : xs.length ≤ 140737488355328) (hcap : xs.length ≤ c) (hlen : (Lib.join (xs.map (·.data.toList)) sep.data.toList).length ≤ 140737488355328) :
    Calls Tryz.prog 57 #[.slice (some ⟨bk, o, none⟩) xs.length c, .string sep] w fun e w' => e = .returned (.string ⟨(Lib.join (xs.map (·.data.toList)) sep.data.toList).toArray⟩) ∧ Below w.heap.size w w' := Any.strings_Join Tryz.lays156 Tryz.Builder_Extra_156 bk o c xs sep w hcells hbk hN hcap hlen
end Go.Proofs
namespace Go.Proofs.Rlp
theorem join_nil (l : List (List UInt8)) : Lib.join l [] = l.flatten := by
  cases l with
  | nil => rfl
  | cons x r => rw [Lib.join_cons, Lib.joinTail]; simp
end Go.Proofs.Rlp
namespace Go.Proofs.YtlbebdkockejcaaGreatDoor
open Go.RowKit
set_option linter.unusedVariables false
set_option linter.unusedSimpArgs false
/-- The texts, as lists of bytes. -/
def datas (xs : List ByteArray) : List (List UInt8) := xs.map (·.data.toList)
set_option maxRecDepth 100000 in
set_option maxHeartbeats 1000000 in
/-- rlp.List of items in a row. -/
theorem list_any (bk o c : Nat) (xs : List ByteArray) (w : World) (hcells : ∀ (j : Nat) x, xs[j]? = some x → w.cell? ⟨bk, o + j, none⟩ = some (.string x)) (hbk : bk < w.heap.size) (hN : xs.length ≤ 140737488355328) (hcap : xs.length ≤ c) (hlen : (datas xs).flatten.length ≤ 70368744177664) :
    Calls Tryz.prog 28 #[.slice (some ⟨bk, o, none⟩) xs.length c] w fun e w' => e = .returned (.string (Nib.bs (Rlp.list (datas xs)))) ∧ Below w.heap.size w w' := by
  have hj := Tryz.strings_Join bk o c xs ⟨#[]⟩ w hcells hbk hN hcap (by
    show (Lib.join (datas xs) []).length ≤ _
    rw [Rlp.join_nil]; omega)
  obtain ⟨b, hb⟩ : ∃ b, b = (datas xs).flatten := ⟨_, rfl⟩
  have hbs : (⟨(Lib.join (xs.map (·.data.toList)) (⟨#[]⟩ : ByteArray).data.toList).toArray⟩ : ByteArray) = Nib.bs b := by
    show (⟨(Lib.join (datas xs) []).toArray⟩ : ByteArray) = _
    rw [Rlp.join_nil, hb]; rfl
  rw [hbs] at hj
  have hL : Rlp.list (datas xs) = Rlp.head 192 b.length ++ b := by rw [Rlp.list, hb]
  rw [hL]
  rw [← hb] at hlen
  have hBs : (Nib.bs b).size = b.length := Nib.bs_size b
  have hh := fun W : World => head_any 192 b.length W (by omega) (by omega)
  have hHs : (Nib.bs (Rlp.head 192 b.length)).size ≤ 9 := by rw [Nib.bs_size]; exact Rlp.head_length _ _
  rw [Nib.bs_append]
  obtain ⟨n, hn⟩ : ∃ n, n = b.length := ⟨_, rfl⟩
  simp only [← hn] at hh hHs hBs hlen ⊢
  obtain ⟨H, hH⟩ : ∃ H, H = Nib.bs (Rlp.head 192 n) := ⟨_, rfl⟩
  obtain ⟨B, hB⟩ : ∃ B, B = Nib.bs b := ⟨_, rfl⟩
  simp only [← hH, ← hB] at hh hHs hBs hj ⊢
  have HJ := Lib.hid hj
  have HHH := Lib.hid hh
  clear hcells hj hh hH hB hL hbs hb hn
  go_enter Tryz.func28, Tryz.ntmps28
  go_wp2_with fail
  refine HJ.out.mono ?_
  rintro e w1 ⟨rfl, bw⟩
  have BW := Lib.hid bw
  clear bw
  go_wp2_with fail
  refine (HHH.out _).mono ?_
  rintro e w2 ⟨rfl, bw2⟩
  have BW2 := Lib.hid bw2
  clear bw2
  go_wp2_with fail
  go_ret
  exact ⟨rfl, BW.out.trans (BW2.out.mono BW.out.size)⟩
set_option maxRecDepth 100000 in
set_option maxHeartbeats 1000000 in
/-- rlp.List of no item. -/
theorem list_none (a : Option Addr) (c : Nat) (w : World) :
    Calls Tryz.prog 28 #[.slice a 0 c] w fun e w' => e = .returned (.string (Nib.bs (Rlp.list []))) ∧ Below w.heap.size w w' := by
  have HJ := Lib.hid (Tryz.strings_Join_none a c ⟨#[]⟩ w)
  have hh := head_any 192 0 w (by omega) (by omega)
  have HHH := Lib.hid hh
  go_enter Tryz.func28, Tryz.ntmps28
  go_wp2_with fail
  refine HJ.out.mono ?_
  rintro e w1 ⟨rfl, rfl⟩
  go_wp2_with fail
  refine HHH.out.mono ?_
  rintro e w2 ⟨rfl, bw2⟩
  have BW2 := Lib.hid bw2
  clear bw2
  go_wp2_with fail
  go_ret
  exact ⟨rfl, BW2.out⟩
end Go.Proofs.YtlbebdkockejcaaGreatDoor
namespace Go.Proofs.Rlp
theorem first_bad {s : List UInt8} {e : Nat} (h : first s = .error e) : e ≤ s.length + 1 := by
  rcases s with _ | ⟨c, r⟩
  · simp [first] at h; omega
  · rw [first] at h
    by_cases h1 : c < 128
    · rw [if_pos h1] at h
      simp at h
    · rw [if_neg h1] at h
      by_cases h2 : c < 192
      · rw [if_pos h2] at h
        rcases hs : size (c :: r) (c.toNat - 128) with e' | ⟨f', n'⟩
        · simp only [hs, Except.error.injEq] at h
          subst h
          exact size_bad hs
        · simp only [hs] at h
          by_cases h4 : f' = 1 ∧ n' = 1 ∧ own (r.take 1) = true
          · rw [if_pos h4] at h
            simp only [Except.error.injEq] at h
            omega
          · rw [if_neg h4] at h
            simp at h
      · rw [if_neg h2] at h
        rcases hs : size (c :: r) (c.toNat - 192) with e' | ⟨f', n'⟩
        · simp only [hs, Except.error.injEq] at h
          subst h
          exact size_bad hs
        · simp [hs] at h
end Go.Proofs.Rlp
namespace Go.Proofs.YtlbebdkockejcaaGreatDoor
open Go.RowKit Go.Shelf
attribute [local go_sem] Oper.semAt_some
set_option linter.unusedVariables false
set_option linter.unusedSimpArgs false
/-- What each tells: an item; or where it is wrong. -/
abbrev Told := ByteArray × Option Nat
def toldErr : Option Nat → Value
  | none => .nilIface
  | some n => faultAt n
def toldEnc (x : Told) : Array Value := #[.string x.1, toldErr x.2]
/-- The items of s from k on. -/
def eachF (s : ByteArray) : Nat → Nat → List Told
  | 0, _ => []
  | m + 1, k =>
    if k < s.size then
      match Rlp.first (s.extract k s.size).data.toList with
      | .error e => [(ByteArray.empty, some (k + e))]
      | .ok (_, f, n) => (s.extract k (k + (f + n)), none) :: eachF s m (k + (f + n))
    else []
theorem eachF_done (s : ByteArray) (m k : Nat) (h : ¬ k < s.size) : eachF s m k = [] := by
  cases m with
  | zero => rfl
  | succ m => rw [eachF, if_neg h]
theorem grown_of_below {w w' : World} (h : Below w.heap.size w w') : w.grownBy w' none := ⟨h.os, h.tape, h.output, h.size, fun k hk _ => h.block k hk⟩
set_option maxRecDepth 100000 in
set_option maxHeartbeats 1000000 in
/-- What each's function does, for every round that keeps its word. -/
theorem each1_in (n l Bn : Nat) (s : ByteArray) (hs : s.size ≤ 70368744177664) (xs : List Told) (hxs : xs = eachF s s.size 0) (hn : 1 ≤ n) (Kp : World → World → Prop) (hK1 : ∀ A B, Kp A B → B.heap[Bn]? = A.heap[Bn]?) (hK2 : ∀ A B, Kp A B → B.heap[0]? = A.heap[0]?) (J Jx : List Told → World → Prop) (W : World)
    (hJ : AbidesFrom W.heap.size J)
    (hY : ∀ pre x W1, J pre W1 → x.1.size ≤ s.size → pre.length < xs.length → YieldAt Fence.wide (n - 1) Tryz.prog l (toldEnc x) W1 fun e W' =>
      (e = .returned (.bool true) ∧ J (pre ++ [x]) W' ∧ Kp W1 W') ∨ (e = .returned (.bool false) ∧ Jx (pre ++ [x]) W'))
    (hBn : W.cell? ⟨Bn, 0, none⟩ = some (.string s)) (hL : Laid2 W) (h0 : J [] W) :
    CallsIn Fence.wide n Tryz.prog 107 #[.func (.yield l) #[] #[], .pointer (some ⟨Bn, 0, none⟩)] W fun e W' => (∃ v, e = .returned v) ∧
      ((∃ ys, ys = xs ∧ J ys W') ∨ (∃ pre, pre <+: xs ∧ Jx pre W')) := by
  refine callsIn_of_wp Tryz.func107 rfl trivial ?_ rfl
  simp only [Tryz.ntmps107, List.size_toArray, List.length_cons, List.length_nil, Nat.reduceAdd, Nat.reduceSub, Array.replicate_succ, Array.replicate_zero, List.push_toArray, List.append_toArray, List.nil_append, List.cons_append]
  have HS := Lib.hid hs
  have HX := Lib.hid hxs
  have HL := Lib.hid hL
  have HBn := Lib.hid hBn
  clear hxs hL hBn
  gi_wp2
  gi_loopw [3] (fun p wr => ∃ (k m : Nat) (pre : List Told), p = .int .i64 (k : Int) ∧ k ≤ s.size ∧ s.size ≤ k + m ∧ Hid (xs = pre ++ eachF s m k) ∧ Hid (wr.cell? ⟨Bn, 0, none⟩ = some (.string s)) ∧ Hid (Laid2 wr) ∧ Hid (J pre wr)) (fun p _ => s.size - (intOf p).toNat)
  case atStart => exact ⟨0, s.size, [], rfl, Nat.zero_le _, by omega, Lib.hid (by rw [HX.out]; rfl), HBn, HL, Lib.hid h0⟩
  case round =>
    obtain ⟨k, m, pre, rfl, hk, hm, hx, hc, hl2, hJs⟩ := hrel
    have hcell := hc.out
    by_cases hlt : k < s.size
    · have hR : (s.extract k s.size).size = s.size - k := by
        rw [← Nib.len_of, Lib.extract_data]
        simp
      have hz := first_any (s.extract k s.size) wr (by omega)
      have hEq : eachF s m k = match Rlp.first (s.extract k s.size).data.toList with
          | .error e => [(ByteArray.empty, some (k + e))]
          | .ok (_, f, n) => (s.extract k (k + (f + n)), none) :: eachF s (m - 1) (k + (f + n)) := by
        obtain ⟨m', rfl⟩ : ∃ m', m = m' + 1 := ⟨m - 1, by omega⟩
        rw [eachF, if_pos hlt]
        rfl
      have hjs := hJs.out
      have hcl := hc.out
      rcases hT : Rlp.first (s.extract k s.size).data.toList with e | ⟨li, f, n'⟩
      · have hbad := Rlp.first_bad hT
        rw [Nib.len_of, hR] at hbad
        simp only [hT, firstVal, faultAt] at hz
        simp only [hT] at hEq
        have HZ := Lib.hid hz
        have HE := Lib.hid hEq
        clear hz hEq hT hjs
        gi_wp2_with fail
        refine ⟨trivial, (callsIn_wide.2 HZ.out).mono ?_⟩
        rintro e1 w1 ⟨rfl, bw1⟩
        obtain ⟨w2, hw2⟩ : ∃ w2, w2 = w1.alloc (.cells #[.bool false, .string ByteArray.empty, .string ByteArray.empty] 142) := ⟨_, rfl⟩
        have bw2 : Below wr.heap.size wr w2 := by rw [hw2]; exact bw1.alloc bw1.size _
        have HW := Lib.hid (why_fault e 2 w2 (hl2.out.on bw2 (Nat.le_refl _)))
        have HW2 := Lib.hid hw2
        have HB2 := Lib.hid bw2
        clear hw2 bw2
        gi_wp2_with fail
        rw [← HW2.out]
        refine ⟨trivial, (callsIn_wide.2 HW.out).mono ?_⟩
        rintro e1 w3 ⟨rfl, bw3⟩
        have bw4 : Below wr.heap.size wr w3 := HB2.out.trans (bw3.mono HB2.out.size)
        have hJ3 : J pre w3 := hJ _ wr w3 none hJs.out (grown_of_below bw4) (fun r e => by cases e)
        have hlen : pre.length < xs.length := by rw [hx.out, HE.out]; simp
        obtain ⟨fn, tmps, assign, body, hy, hRR⟩ := hY pre (ByteArray.empty, some (k + e)) w3 hJ3 (Nat.zero_le _) hlen
        have hy' : (Instr.yield l #[.string ⟨#[]⟩, .iface 168 (.agg #[.int .i64 ((k : Int) + (e : Int)), .int .i64 2])]).run Tryz.prog w3 = .ok (.round l fn tmps assign body) w3 := hy
        have HRR := Lib.hid hRR
        clear hRR hy bw4 bw3 hJ3
        gi_wp2_with fail
        refine HRR.out.mono ?_
        rintro e1 W3 (⟨rfl, hJ4, hk4⟩ | ⟨rfl, hJx4⟩)
        · gi_wp2_with fail
          refine bodyPost_ret (results_none rfl _ _ _) rfl ?_
          exact ⟨⟨_, rfl⟩, .inl ⟨pre ++ [(ByteArray.empty, some (k + e))], by rw [hx.out, HE.out], hJ4⟩⟩
        · gi_wp2_with fail
          refine bodyPost_ret (results_none rfl _ _ _) rfl ?_
          exact ⟨⟨_, rfl⟩, .inr ⟨pre ++ [(ByteArray.empty, some (k + e))], by rw [hx.out, HE.out]; exact List.prefix_refl _, hJx4⟩⟩
      · have hok := Rlp.first_ok hT
        rw [Nib.len_of, hR] at hok
        obtain ⟨hok1, hok2⟩ := hok
        simp only [hT, firstVal] at hz
        simp only [hT] at hEq
        obtain ⟨X, hX⟩ : ∃ X, X = (s.extract k s.size).extract f (f + n') := ⟨_, rfl⟩
        obtain ⟨Y, hY0⟩ : ∃ Y, Y = (s.extract k s.size).extract (f + n') (s.extract k s.size).size := ⟨_, rfl⟩
        have hYs : Y.size = s.size - k - (f + n') := by
          rw [hY0, ← Nib.len_of, Lib.extract_data]
          simp
        rw [← hX, ← hY0] at hz
        obtain ⟨q, hq⟩ : ∃ q, q = k + (f + n') := ⟨_, rfl⟩
        rw [← hq] at hEq
        have hqs : q ≤ s.size := by omega
        have hqk : k < q := by omega
        have hqi : (s.size : Int) - (Y.size : Int) = (q : Int) := by rw [hYs]; omega
        have hsl : (Instr.slice 9 (.string s) (some (.int .i64 (k : Int))) (some (.int .i64 (q : Int))) none).run Tryz.prog = fun W => .ok (.string (s.extract k q)) W := by
          funext W
          rw [run_slice_string _ _ _ _ _ _ _ Tryz.underlying9 (by omega) (by omega) (by omega)]
          rfl
        have hsl2 : ∀ W, (Instr.slice 9 (.string s) (some (.int .i64 (k : Int))) (some (.int .i64 (q : Int))) none).run Tryz.prog W = .ok (.string (s.extract k q)) W := fun W => congrFun hsl W
        have HZ := Lib.hid hz
        have HE := Lib.hid hEq
        clear hz hEq hT hjs hX hY0 hYs hq hsl
        gi_wp2_with fail
        refine ⟨trivial, (callsIn_wide.2 HZ.out).mono ?_⟩
        rintro e1 w1 ⟨rfl, bw1⟩
        obtain ⟨w2, hw2⟩ : ∃ w2, w2 = w1.alloc (.cells #[.bool li, .string X, .string Y] 142) := ⟨_, rfl⟩
        have bw2 : Below wr.heap.size wr w2 := by rw [hw2]; exact bw1.alloc bw1.size _
        have hJ3 : J pre w2 := hJ _ wr w2 none hJs.out (grown_of_below bw2) (fun r e => by cases e)
        have hlen : pre.length < xs.length := by rw [hx.out, HE.out]; simp
        have hc2 : w2.cell? ⟨Bn, 0, none⟩ = some (.string s) := kept_cell (grown_of_below bw2) hc.out
        have hl3 : Laid2 w2 := hl2.out.on bw2 (Nat.le_refl _)
        obtain ⟨fn, tmps, assign, body, hy, hRR⟩ := hY pre (s.extract k q, none) w2 hJ3 (by rw [← Nib.len_of, Lib.extract_data]; simp; omega) hlen
        have hy' : (Instr.yield l #[.string (s.extract k q), .nilIface]).run Tryz.prog w2 = .ok (.round l fn tmps assign body) w2 := hy
        rw [hw2] at hy' hc2
        have HRR := Lib.hid hRR
        have HW2 := Lib.hid hw2
        have HC2 := Lib.hid hc2
        have HL3 := Lib.hid hl3
        clear hRR hy hJ3 hw2 hl3 bw2 bw1
        gi_wp2_with fail
        rw [← HW2.out]
        refine HRR.out.mono ?_
        rintro e1 W3 (⟨rfl, hJ4, hk4⟩ | ⟨rfl, hJx4⟩)
        · have hc3 : W3.cell? ⟨Bn, 0, none⟩ = some (.string s) := by
            rw [World.cell?_of_block (hK1 _ _ hk4), HW2.out]
            exact HC2.out
          have hl4 : Laid2 W3 := by
            unfold Laid2
            rw [World.cell?_of_block (hK2 _ _ hk4)]
            exact HL3.out
          gi_wp2_with fail
          go_roundw
          case rel => exact ⟨q, m - 1, pre ++ [(s.extract k q, none)], rfl, hqs, by omega, Lib.hid (by rw [hx.out, HE.out]; simp), Lib.hid hc3, Lib.hid hl4, Lib.hid hJ4⟩
          case measure => simp [intOf]; omega
        · gi_wp2_with fail
          refine bodyPost_ret (results_none rfl _ _ _) rfl ?_
          exact ⟨⟨_, rfl⟩, .inr ⟨pre ++ [(s.extract k q, none)], by rw [hx.out, HE.out]; exact ⟨eachF s (m - 1) q, by simp⟩, hJx4⟩⟩
    · have hd := eachF_done s m k hlt
      gi_wp2_with fail
      go_end0
      exact ⟨⟨_, rfl⟩, .inl ⟨pre, by rw [hx.out, hd, List.append_nil], hJs.out⟩⟩
/-- Blocks below N, and block b, lie as they lay. -/
def Kb (N b : Nat) (A B : World) : Prop := Below N A B ∧ B.heap[b]? = A.heap[b]?
theorem Kb.trans {N b : Nat} {A B C : World} (h : Kb N b A B) (k : Kb N b B C) : Kb N b A C := ⟨h.1.trans k.1, k.2.trans h.2⟩
theorem kb_t {N b : Nat} {A B C : World} (h : Kb N b A B) (k : Kb N b B C) : Kb N b A C := h.trans k
theorem kb_b {N b : Nat} {w : World} (hN : N ≤ w.heap.size) (hb : b < w.heap.size) (W : World) (l : Nat) (o o' : Obj) (hl : w.heap.size ≤ l) (h : W.heap[l]? = some o) (h1 : o.isCells = false) (h2 : o.isWalk = false) : Kb N b W (W.putObj l o') :=
  ⟨belowK_b hN W l o o' hl h h1 h2, World.putObj_heap_other (by omega)⟩
/-- What each hands back, for a loop over it. -/
theorem each_stops (n b N : Nat) (s : ByteArray) (hs : s.size ≤ 70368744177664) (hn : 1 ≤ n) (hN : 0 < N) (w : World) (hb : b < w.heap.size) (hNw : N ≤ w.heap.size) (hc : w.cell? ⟨b, 0, none⟩ = some (.string s)) (hL : Laid2 w) :
    SeqStopsK Fence.wide n Tryz.prog 107 #[.pointer (some ⟨b, 0, none⟩)] toldEnc (Kb N b) (fun ys => ys = eachF s s.size 0) (fun pre => pre <+: eachF s s.size 0) (eachF s s.size 0).length w :=
  fun l J Jx W hW hJ _ hY h0 => each1_in n l b s hs _ rfl hn (Kb N b) (fun _ _ h => h.2) (fun _ _ h => h.1.block 0 hN) J Jx W hJ (fun pre x W1 h1 _ h2 => hY pre x W1 h1 h2) ((hW.cell (p := ⟨b, 0, none⟩) hb).trans hc) (hL.on hW (Nat.le_refl _)) h0
/-- What is told of a text of at most M bytes. -/
abbrev ToldIn (M : Nat) := { x : Told // x.1.size ≤ M }
def bare {M : Nat} (l : List (ToldIn M)) : List Told := l.map (·.1)
theorem bare_snoc {M : Nat} (l : List (ToldIn M)) (x : ToldIn M) : bare (l ++ [x]) = bare l ++ [x.1] := by simp [bare]
/-- The same, where a round may know that what it is told is no longer than M. -/
theorem each_stops_in (M n b N : Nat) (s : ByteArray) (hM : s.size ≤ M) (hs : s.size ≤ 70368744177664) (hn : 1 ≤ n) (hN : 0 < N) (w : World) (hb : b < w.heap.size) (hNw : N ≤ w.heap.size) (hc : w.cell? ⟨b, 0, none⟩ = some (.string s)) (hL : Laid2 w) :
    SeqStopsK Fence.wide n Tryz.prog 107 #[.pointer (some ⟨b, 0, none⟩)] (fun x : ToldIn M => toldEnc x.1) (Kb N b) (fun ys => bare ys = eachF s s.size 0) (fun pre => bare pre <+: eachF s s.size 0) (eachF s s.size 0).length w := by
  intro l J Jx W hW hJ hJx hY h0
  have key := each1_in n l b s hs _ rfl hn (Kb N b) (fun _ _ h => h.2) (fun _ _ h => h.1.block 0 hN) (fun p W => ∃ p' : List (ToldIn M), bare p' = p ∧ J p' W) (fun p W => ∃ p' : List (ToldIn M), bare p' = p ∧ Jx p' W) W
    (fun p A B row ⟨p', hp, hj⟩ hg hr => ⟨p', hp, hJ p' A B row hj hg hr⟩)
    (fun pre x W1 ⟨p', hp, hj⟩ hx hl => by
      have hl' : p'.length < (eachF s s.size 0).length := by rw [← hp, bare, List.length_map] at hl; exact hl
      refine (hY p' ⟨x, Nat.le_trans hx hM⟩ W1 hj hl').mono ?_
      rintro e W2 (⟨he, h1, h2⟩ | ⟨he, h1⟩)
      · exact .inl ⟨he, ⟨_, by rw [bare_snoc, hp], h1⟩, h2⟩
      · exact .inr ⟨he, ⟨_, by rw [bare_snoc, hp], h1⟩⟩)
    ((hW.cell (p := ⟨b, 0, none⟩) hb).trans hc) (hL.on hW (Nat.le_refl _)) ⟨[], rfl, h0⟩
  refine key.mono ?_
  rintro e W2 ⟨hv, ⟨ys, hys, p', hp, hj⟩ | ⟨pre, hpre, p', hp, hj⟩⟩
  · exact ⟨hv, .inl ⟨p', hp.trans hys, hj⟩⟩
  · exact ⟨hv, .inr ⟨p', show bare p' <+: eachF s s.size 0 by rw [hp]; exact hpre, hj⟩⟩
/-- rlp.each. -/
theorem each_any (s : ByteArray) (w : World) :
    Calls Tryz.prog 98 #[.string s] w fun e w' => e = .returned (.func (.func 107) #[] #[.pointer (some ⟨w.heap.size, 0, none⟩)]) ∧ w' = w.alloc (.cells #[.string s] 9) := by
  go_enter Tryz.func98, Tryz.ntmps98
  go_wp2_with fail
  go_ret
  exact ⟨rfl, rfl⟩
end Go.Proofs.YtlbebdkockejcaaGreatDoor
namespace Go.Proofs.YtlbebdkockejcaaGreatDoor
open Go.RowKit Go.Extern.Stop Go.Stop Go.Extern
set_option linter.unusedVariables false
set_option linter.unusedSimpArgs false
theorem Is.eqTypes (vx vy : Value) (w : World) : (binOp .eql 94 (.iface 168 vx) (.iface 24 vy)).run Tryz.prog w = .ok (.bool false) w := run_eql_iface_types _ _ _ _ Tryz.underlying94 (by decide) w
theorem Is.eqNil (n : Int) (w : World) : (binOp .eql 94 .nilIface (.iface 24 (.int .i64 n))).run Tryz.prog w = .ok (.bool false) w := by kernel_rfl
theorem Is.eqSame (w : World) : (binOp .eql 94 (.iface 24 (.int .i64 2)) (.iface 24 (.int .i64 2))).run Tryz.prog w = .ok (.bool true) w := by kernel_rfl
theorem Is.comparable24 (w : World) : (ReflectliteType.method (fun t => do Rtype.noPackHeld "Comparable" t; (fun a => Value.bool a.comparable) <$> typeInfo t) #[.agg #[hd 24]]).run Tryz.prog w = .ok (.bool true) w := by kernel_rfl
set_option maxRecDepth 100000 in
/-- errors.Is of no error. -/
theorem is_nil (n : Int) (w : World) :
    Calls Tryz.prog 99 #[.nilIface, .iface 24 (.int .i64 n)] w fun e w' => e = .returned (.bool false) ∧ w = w' := by
  have q0 := Is.eqNil n
  go_enter Tryz.func99, Tryz.ntmps99
  go_wp2_with fail
  go_ret
  exact ⟨rfl, rfl⟩
set_option maxRecDepth 100000 in
set_option maxHeartbeats 4000000 in
/-- errors.Is of a fault. -/
theorem is_fault (x : Int) (w : World) :
    Calls Tryz.prog 99 #[.iface 168 (.agg #[.int .i64 x, .int .i64 2]), .iface 24 (.int .i64 2)] w fun e w' => e = .returned (.bool true) ∧ w.grownBy w' none := by
  have h40 := @run_callFunc_extern Tryz.prog 101 _ ReflectliteType.typeOf Tryz.func101 (by kernel_rfl) (by kernel_rfl) (by kernel_rfl) (by kernel_rfl)
  have h85 := @run_callFunc_extern Tryz.prog 135 _ (ReflectliteType.method (fun t => do Rtype.noPackHeld "Comparable" t; pure (.bool (← typeInfo t).comparable))) Tryz.func135 (by kernel_rfl) (by kernel_rfl) (by kernel_rfl) (by kernel_rfl)
  have tO := As.typeOf24
  have mC := As.mComparable
  have cm := Is.comparable24
  have q1 := Is.eqTypes
  have q2 := Is.eqSame
  have nI := As.noIs76
  have un := As.unwrap76
  have mU := As.mUnwrap
  go_enter Tryz.func99, Tryz.ntmps99
  go_wp2
  refine wp_loop_rounds 2 ?_
  rw [rounds_succ]
  go_wp2
  rw [rounds_succ]
  go_wp2
  go_ret
  exact ⟨rfl, World.grownBy_alloc _ _ _⟩
end Go.Proofs.YtlbebdkockejcaaGreatDoor
namespace Go.Proofs.YtlbebdkockejcaaGreatDoor
open Go.RowKit Go.Shelf
attribute [local go_sem] Oper.semAt_some
set_option linter.unusedVariables false
set_option linter.unusedSimpArgs false
theorem infoStr : (Tryz.prog.info? 9).map (fun i => (i.zero, i.size, i.bytes)) = some (some (.string ByteArray.empty), 1, 16) := by kernel_rfl
def strs (l : List Told) : List Value := l.map fun x => .string x.1
theorem strs_snoc (l : List Told) (x : Told) : strs l ++ [.string x.1] = strs (l ++ [x]) := by simp [strs]
/-- Nothing wrong was told. -/
def Fine (l : List Told) : Prop := ∀ x ∈ l, x.2 = none
theorem isAggSl (w : World) : (isAgg 60).run Tryz.prog w = .ok false w := by kernel_rfl
theorem isAggEr (w : World) : (isAgg 24).run Tryz.prog w = .ok false w := by kernel_rfl
/-- Two results that lie in memory. -/
theorem results_cells2 {fn : Func} (h : fn.results = #[.cell 2 60, .cell 3 24]) (tmps : Array Value) (w : World) (a b : Nat) (h2 : tmps[2]?.getD undef = .pointer (some ⟨a, 0, none⟩)) (h3 : tmps[3]?.getD undef = .pointer (some ⟨b, 0, none⟩)) {x y : Value} (hx : Boxed w a 60 x) (hy : Boxed w b 24 y) :
    (results fn tmps).run Tryz.prog w = .ok (.tuple #[x, y]) w := by
  have c1 := hx.cell
  have c2 := hy.cell
  simp [results, h, h2, h3, loadVar, isAggSl, isAggEr, asAddr, c1, c2, Result.andThen]
theorem row_mono {w : World} {base base' : Nat} {e : TypeId} {size : Nat} {v : Value} {n : Nat} {xs : List Value} (h : w.ownsRow base e size v n xs) (hb : base' ≤ base) : w.ownsRow base' e size v n xs :=
  ⟨h.1, h.2.imp id (fun ⟨g, cap, cur, h1, h2, h3⟩ => ⟨g, cap, cur, h1, Nat.le_trans hb h2, h3⟩)⟩
theorem eachF_length (s : ByteArray) : ∀ (m k : Nat), (eachF s m k).length ≤ s.size - k := by
  intro m
  induction m with
  | zero => intro k; simp [eachF]
  | succ m ih =>
    intro k
    rw [eachF]
    split
    · next hlt =>
      rcases hT : Rlp.first (s.extract k s.size).data.toList with e | ⟨l, f, n⟩
      · simp; omega
      · have := Rlp.first_ok hT
        have h2 := ih (k + (f + n))
        simp only [List.length_cons]
        omega
    · simp
set_option maxRecDepth 100000 in
set_option maxHeartbeats 2000000 in
/-- rlp.Items. -/
theorem items_any (s : ByteArray) (w : World) (hs : s.size ≤ 4398046511104) (hl : Laid2 w) :
    Calls Tryz.prog 84 #[.string s] w fun e w' => Below w.heap.size w w' ∧
      ((¬ Fine (eachF s s.size 0) ∧ e = .returned (.tuple #[.slice none 0 0, .int .i64 2])) ∨
       (Fine (eachF s s.size 0) ∧ ∃ v, e = .returned (.tuple #[v, .int .i64 0]) ∧ w'.ownsRow w.heap.size 9 1 v (eachF s s.size 0).length (strs (eachF s s.size 0)))) := by
  refine (callsIn_wide (n := 5)).1 ?_
  obtain ⟨i0, hi, hz0, hz1, hz2⟩ := info_parts infoStr
  have hlt : 0 < w.heap.size := hl.lt
  refine callsIn_of_wp_marks Tryz.func84 rfl trivial ?_ rfl
  simp only [Tryz.ntmps84, List.size_toArray, List.length_cons, List.length_nil, Nat.reduceAdd, Nat.reduceSub, Array.replicate_succ, Array.replicate_zero, List.push_toArray, List.append_toArray, List.nil_append, List.cons_append]
  gi_wp2_with (refine ⟨trivial, ?_⟩; refine (callsIn_wide.2 (each_any s _)).mono ?_; rintro e w' ⟨rfl, rfl⟩)
  obtain ⟨N, hN⟩ : ∃ N, N = w.heap.size := ⟨_, rfl⟩
  have b0 := Boxed.new w 60 (.slice none 0 0)
  have b1 := Boxed.new (w.alloc (.cells #[.slice none 0 0] 60)) 24 (.int .i64 0)
  have b2 := Boxed.new ((w.alloc (.cells #[.slice none 0 0] 60)).alloc (.cells #[.int .i64 0] 24)) 60 (.slice none 0 0)
  have b3 := Boxed.new (((w.alloc (.cells #[.slice none 0 0] 60)).alloc (.cells #[.int .i64 0] 24)).alloc (.cells #[.slice none 0 0] 60)) 9 (.string s)
  simp only [World.size_alloc] at b1 b2 b3
  have b0' := ((b0.alloc (.cells #[.int .i64 0] 24)).alloc (.cells #[.slice none 0 0] 60)).alloc (.cells #[.string s] 9)
  have b1' := (b1.alloc (.cells #[.slice none 0 0] 60)).alloc (.cells #[.string s] 9)
  have b2' := b2.alloc (.cells #[.string s] 9)
  have hB0 : Below w.heap.size w ((((w.alloc (.cells #[.slice none 0 0] 60)).alloc (.cells #[.int .i64 0] 24)).alloc (.cells #[.slice none 0 0] 60)).alloc (.cells #[.string s] 9)) := ((((Below.refl _ w).alloc (Nat.le_refl _) _).alloc (by simp) _).alloc (by simp; omega) _).alloc (by simp; omega) _
  have hsz : ((((w.alloc (.cells #[.slice none 0 0] 60)).alloc (.cells #[.int .i64 0] 24)).alloc (.cells #[.slice none 0 0] 60)).alloc (.cells #[.string s] 9)).heap.size = N + 4 := by simp [hN]
  generalize ((((w.alloc (.cells #[.slice none 0 0] 60)).alloc (.cells #[.int .i64 0] 24)).alloc (.cells #[.slice none 0 0] 60)).alloc (.cells #[.string s] 9)) = W0 at b0' b1' b2' b3 hB0 hsz ⊢
  have hL0 : Laid2 W0 := hl.on hB0 (Nat.le_refl _)
  simp only [← hN] at b0' b1' b2' b3 hB0 hlt ⊢
  have hNw : N ≤ w.heap.size := by omega
  have HN := Lib.hid hN
  clear hN b0 b1 b2
  refine wpIn_rangeFunc_ownF rfl (by decide) (gf := 107) (lb := #[.pointer (some ⟨N + 1 + 1 + 1, 0, none⟩)]) rfl trivial (enters_of Tryz.func107 (by kernel_rfl) rfl)
    (each_stops 4 (N + 1 + 1 + 1) N s (by omega) (by decide) hlt W0 (by omega) (by omega) b3.cell hL0) kb_t (kb_b (by omega) (by omega)) (Below.refl _ _) (fun _ => rfl)
    (fun pre W => Fine pre ∧ (∃ v, Boxed W (N + 1 + 1) 60 v ∧ W.ownsRow (N + 4) 9 1 v pre.length (strs pre) ∧ True) ∧ Boxed W N 60 (.slice none 0 0) ∧ Boxed W (N + 1) 24 (.int .i64 0) ∧ Boxed W (N + 1 + 1 + 1) 9 (.string s) ∧ Below N w W)
    (fun c pre W => c = .ret ∧ ¬ Fine pre ∧ Boxed W N 60 (.slice none 0 0) ∧ Boxed W (N + 1) 24 (.int .i64 2) ∧ Below N w W)
    (OwnFrom.and (ownFrom_pure _ _) (OwnFrom.and (Own.from (holdsRow_own (N + 4) (N + 1 + 1) 60 9 1 (fun pre => pre.length) strs (fun _ _ => True)) _) (OwnFrom.and (Own.from (boxed_own _ _ _) _) (OwnFrom.and (Own.from (boxed_own _ _ _) _) (OwnFrom.and (Own.from (boxed_own _ _ _) _) (ownFrom_below hNw (by omega)))))))
    (fun c => OwnFrom.and (ownFrom_pure _ _) (OwnFrom.and (ownFrom_pure _ _) (OwnFrom.and (Own.from (boxed_own _ _ _) _) (OwnFrom.and (Own.from (boxed_own _ _ _) _) (ownFrom_below hNw (by omega))))))
    ⟨fun _ h => (by cases h), ⟨_, b2', World.ownsRow_nil _ _ _ _, trivial⟩, b0', b1', b3, hB0⟩
    (fun x => { tmps := #[.string s, undef, .pointer (some ⟨N, 0, none⟩), .pointer (some ⟨N + 1, 0, none⟩), .pointer (some ⟨N + 1 + 1, 0, none⟩), .string x.1, toldErr x.2, .string s, .func (.func 107) #[] #[.pointer (some ⟨N + 1 + 1 + 1, 0, none⟩)], .string x.1, toldErr x.2, undef, undef, undef, undef, undef, undef, undef, undef], defers := [] }) ?assign ?body ?done ?stop
  case assign =>
    intro l x W K hK
    simp only [toldEnc]
    gi_wp2
    exact hK
  case body =>
    rintro l pre x W ⟨hF, ⟨v, hv, hrow, _⟩, c0, c1, c3, hB⟩ hlen
    have hc := hv.cell
    have d0 := c0.cell
    have d1 := c1.cell
    have e0 := c0.frozen
    have e1 := c1.frozen
    rcases x with ⟨b, _ | er⟩
    · simp only [toldErr]
      have hlen2 := eachF_length s s.size 0
      have hpl : pre.length + 1 ≤ maxLen := by simp [maxLen]; omega
      have hpb : (pre.length + 1) * 16 ≤ 140737488355328 := by omega
      have hc3 := c3.lt
      have hWN : N ≤ W.heap.size := by omega
      have hW4 : N + 4 ≤ (W.alloc (.cells #[.string b] 9)).heap.size := by simp; omega
      have hne : ∀ i, i < N + 4 → some i ≠ v.ownBlock := fun i hi h => by have := (hrow.lt i h.symm).1; omega
      gi_wp2_with (first
        | (refine ⟨trivial, ?_⟩; refine (CallsIn.inRound l (callsIn_wide.2 (is_nil 2 _))).mono ?_; rintro e w' ⟨rfl, rfl⟩)
        | (gi_at_builtin; refine wpListIn_append_own _ rfl _ _ 60 rfl (N + 4) 9 i0 (.string ByteArray.empty) 1 16 Tryz.underlying60 hi hz0 hz1 hz2 rfl (by decide) _ _ _ rfl (hrow.alloc _) ⟨W.heap.size, 0, none⟩ 1 1 [.string b] rfl rfl (cell_one_new _ _ _) (by simp [Value.oneCell']) hpl hpb hW4 ?_; intro v' w1 hown' hgrow _; obtain ⟨g', cap', rfl⟩ := ownsRow_succ hown'; obtain ⟨hv1, hv2, hr2, hk2, hb2⟩ := hv.appended (by decide) (row_mono hrow (by omega)) hWN (by omega) (row_mono hown' (by omega)) hgrow; have hc1 := hv1.cell; have hf1 := hv1.frozen))
      have k0 := ((c0.alloc _).kept hgrow (hne N (by omega))).other (B' := N + 1 + 1) (by omega) (Value.slice (some ⟨g', 0, none⟩) (pre.length + 1) cap')
      have k1 := ((c1.alloc _).kept hgrow (hne (N + 1) (by omega))).other (B' := N + 1 + 1) (by omega) (Value.slice (some ⟨g', 0, none⟩) (pre.length + 1) cap')
      have k3 := ((c3.alloc _).kept hgrow (hne (N + 1 + 1 + 1) (by omega))).other (B' := N + 1 + 1) (by omega) (Value.slice (some ⟨g', 0, none⟩) (pre.length + 1) cap')
      have hown2 := hown'.kept (grownBy_setCell' w1 (N + 1 + 1) (Value.slice (some ⟨g', 0, none⟩) (pre.length + 1) cap')) (.inr (fun h => by have := (hown'.lt _ h).1; omega))
      refine ⟨hk2, ⟨hb2, k3.trans (Eq.symm c3)⟩, ?_, ⟨_, hv2, ?_, trivial⟩, k0, k1, k3, hB.trans hb2⟩
      · intro y hy
        rcases List.mem_append.1 hy with h | h
        · exact hF y h
        · rw [List.mem_singleton.1 h]
      · rw [List.length_append]
        rw [show strs pre ++ [.string b] = strs (pre ++ [(b, none)]) from strs_snoc pre (b, none)] at hown2
        exact hown2
    · simp only [toldErr, faultAt]
      gi_wp2_with (refine ⟨trivial, ?_⟩; refine (CallsIn.inRound l (callsIn_wide.2 (is_fault _ _))).mono ?_; rintro e w' ⟨rfl, hg⟩; have hc' := kept_cell hg hc; have d0' := kept_cell hg d0; have d1' := kept_cell hg d1; have e0' := kept_frozen hg d0 e0; have e1' := kept_frozen hg d1 e1)
      have m0 := c0.kept hg (by simp)
      have m1 := c1.kept hg (by simp)
      refine ⟨((KeepsOthers.of_grownBy hg (fun j o e => by cases e)).trans (KeepsOthers.setCell _ _ _)).trans (KeepsOthers.setCell _ _ _), rfl, ?_, (m0.set _).other (by omega) _, (m1.other (by omega) _).set _, ((Below.grownNone hB (by have := c0.lt; omega) hg).setCell (p := ⟨N, 0, none⟩) (Nat.le_refl _) _).setCell (p := ⟨N + 1, 0, none⟩) (by simp) _⟩
      intro hf
      have := hf (b, some er) (by simp)
      cases this
  case done =>
    rintro D ys W hD rfl ⟨hF, ⟨v, hv, hrow, _⟩, c0, c1, c3, hB⟩ hK
    obtain ⟨a, c, rfl, hsh⟩ := shape_of hrow
    have hc := hv.cell
    have d0 := c0.cell
    have d1 := c1.cell
    have e0 := c0.frozen
    have e1 := c1.frozen
    gi_wp2
    have hND : N + 4 ≤ D := by omega
    obtain ⟨W2, hW2⟩ : ∃ W2, W2 = (W.setCell ⟨N, 0, none⟩ (.slice a (eachF s s.size 0).length c)).setCell ⟨N + 1, 0, none⟩ (.int .i64 0) := ⟨_, rfl⟩
    have hK2 : W2.heap[D]? = some (.deferred (some [])) := by
      rw [hW2, Deep.blk_setCell_other _ _ _ _ (by simp; omega), Deep.blk_setCell_other _ _ _ _ (by simp; omega)]
      exact hK
    have q0 : Boxed W2 N 60 (.slice a (eachF s s.size 0).length c) := by rw [hW2]; exact (c0.set _).other (by omega) _
    have q1 : Boxed W2 (N + 1) 24 (.int .i64 0) := by rw [hW2]; exact (c1.other (by omega) _).set _
    have qr : W2.ownsRow (N + 4) 9 1 (.slice a (eachF s s.size 0).length c) (eachF s s.size 0).length (strs (eachF s s.size 0)) := by
      rw [hW2]
      refine (hrow.kept (grownBy_setCell' W N _) (.inr (fun h => by have := (hrow.lt _ h).1; omega))).kept (grownBy_setCell' _ (N + 1) _) (.inr (fun h => by have := (hrow.lt _ h).1; omega))
    have qB : Below N w W2 := by rw [hW2]; exact (hB.setCell (p := ⟨N, 0, none⟩) (Nat.le_refl _) _).setCell (p := ⟨N + 1, 0, none⟩) (by simp) _
    rw [← hW2]
    have p0 := q0.kept (grownBy_putObj' W2 D (.deferred none)) (by simp; omega)
    have p1 := q1.kept (grownBy_putObj' W2 D (.deferred none)) (by simp; omega)
    refine ⟨by simp, .inl ⟨_, _, rfl, run_takeDeferred hK2, ?_⟩⟩
    refine ⟨.tuple #[.slice a (eachF s s.size 0).length c, .int .i64 0], results_cells2 rfl _ _ N (N + 1) rfl rfl p0 p1, ?_, .inr ⟨hF, _, rfl, ?_⟩⟩
    · rw [← HN.out]; exact qB.trans (belowK_b (w := w) hNw W2 D _ _ (by have := HN.out; omega) hK2 rfl rfl)
    · rw [← HN.out]; exact row_mono (ownsRow_putObj qr _ hK2 rfl) (by omega)
  case stop =>
    rintro D c pre W hD hp ⟨rfl, hF, c0, c1, hB⟩ hK
    gi_wp2
    have hND : N + 4 ≤ D := by omega
    have p0 := c0.kept (grownBy_putObj' W D (.deferred none)) (by simp; omega)
    have p1 := c1.kept (grownBy_putObj' W D (.deferred none)) (by simp; omega)
    refine ⟨by simp, .inl ⟨_, _, rfl, run_takeDeferred hK, ?_⟩⟩
    refine ⟨.tuple #[.slice none 0 0, .int .i64 2], results_cells2 rfl _ _ N (N + 1) rfl rfl p0 p1, ?_, .inl ⟨?_, rfl⟩⟩
    · rw [← HN.out]; exact hB.trans (belowK_b (w := w) hNw W D _ _ (by have := HN.out; omega) hK rfl rfl)
    · intro hfine
      apply hF
      intro x hx
      exact hfine x (hp.subset hx)
end Go.Proofs.YtlbebdkockejcaaGreatDoor

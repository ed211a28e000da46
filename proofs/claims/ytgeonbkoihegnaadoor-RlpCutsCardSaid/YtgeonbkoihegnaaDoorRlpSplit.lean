import Derived.Test.YtgeonbkoihegnaaDoorRlpGet
namespace Go.Proofs.YtgeonbkoihegnaaDoor
open Go.RowKit
set_option linter.unusedVariables false
set_option linter.unusedSimpArgs false
/-- What errors.errorType holds. -/
def Laid2 (w : World) : Prop := w.cell? ⟨2, 0, none⟩ = some (rt 52)
theorem Laid2.lt {w : World} (h : Laid2 w) : 2 < w.heap.size := World.block_lt_of_cell? w ⟨2, 0, none⟩ h
theorem Laid2.on {w w' : World} (h : Laid2 w) {B : Nat} (k : Below B w w') (hB : w.heap.size ≤ B) : Laid2 w' := by
  have h2 := h.lt
  unfold Laid2 at *
  rw [World.cell?_of_block (k.block _ (show 2 < B by omega))]
  exact h
def splitVal (s : ByteArray) : Except Nat (Bool × Nat × Nat) → Value
  | .error n => .tuple #[.bool false, .string ByteArray.empty, .string ByteArray.empty, .int .i64 2]
  | .ok (l, f, n) => .tuple #[.bool l, .string (s.extract f (f + n)), .string (s.extract (f + n) s.size), .int .i64 0]
set_option maxRecDepth 100000 in
set_option maxHeartbeats 1000000 in
/-- rlp.Split. -/
theorem split_any (s : ByteArray) (w : World) (hs : s.size ≤ 70368744177664) (hl : Laid2 w) :
    Calls Tryd.prog 17 #[.string s] w fun e w' => e = .returned (splitVal s (Rlp.first s.data.toList)) ∧ Below w.heap.size w w' := by
  have hz := first_any s w hs
  have HL := Lib.hid hl
  clear hl
  rcases hT : Rlp.first s.data.toList with e | ⟨l, f, n⟩
  · simp only [hT, firstVal, faultAt] at hz
    have HZ := Lib.hid hz
    clear hz hT
    go_enter Tryd.func17, Tryd.ntmps17
    go_wp2_with fail
    refine HZ.out.mono ?_
    rintro e w1 ⟨rfl, bw⟩
    obtain ⟨w2, hw2⟩ : ∃ w2, w2 = w1.alloc (.cells #[.bool false, .string ByteArray.empty, .string ByteArray.empty] 50) := ⟨_, rfl⟩
    have bw2 : Below w.heap.size w w2 := by rw [hw2]; exact bw.alloc bw.size _
    have hwy := why_fault e 2 w2 (HL.out.on bw2 (Nat.le_refl _))
    have hc0 : w2.cell? ⟨w1.heap.size, 0, none⟩ = some (.bool false) := by rw [hw2]; simp
    have hc1 : w2.cell? ⟨w1.heap.size, 1, none⟩ = some (.string ByteArray.empty) := by rw [hw2]; simp
    have hc2 : w2.cell? ⟨w1.heap.size, 2, none⟩ = some (.string ByteArray.empty) := by rw [hw2]; simp
    have hlt : w1.heap.size < w2.heap.size := by rw [hw2]; simp
    have HW := Lib.hid hwy
    have HC0 := Lib.hid hc0
    have HC1 := Lib.hid hc1
    have HC2 := Lib.hid hc2
    have HB := Lib.hid bw2
    have HW2 := Lib.hid hw2
    clear hwy hc0 hc1 hc2 bw2 bw hw2
    go_wp2_with fail
    rw [← HW2.out]
    refine HW.out.mono ?_
    rintro e w3 ⟨rfl, bw3⟩
    have hd0 : w3.cell? ⟨w1.heap.size, 0, none⟩ = some (.bool false) := (World.cell?_of_block (bw3.block _ hlt)).trans HC0.out
    have hd1 : w3.cell? ⟨w1.heap.size, 1, none⟩ = some (.string ByteArray.empty) := (World.cell?_of_block (bw3.block _ hlt)).trans HC1.out
    have hd2 : w3.cell? ⟨w1.heap.size, 2, none⟩ = some (.string ByteArray.empty) := (World.cell?_of_block (bw3.block _ hlt)).trans HC2.out
    have HB3 := Lib.hid (HB.out.trans (bw3.mono HB.out.size))
    clear bw3
    go_wp2_with fail
    go_quiet (fail)
    go_wp2_with fail
    go_returns
    exact ⟨rfl, below_drewN HB3.out _⟩
  · simp only [hT, firstVal] at hz
    have HZ := Lib.hid hz
    clear hz hT
    obtain ⟨X, hX⟩ : ∃ X, X = s.extract f (f + n) := ⟨_, rfl⟩
    obtain ⟨Y, hY⟩ : ∃ Y, Y = s.extract (f + n) s.size := ⟨_, rfl⟩
    rw [← hX, ← hY] at HZ
    have HX := Lib.hid hX
    have HY := Lib.hid hY
    clear hX hY
    go_enter Tryd.func17, Tryd.ntmps17
    go_wp2_with fail
    refine HZ.out.mono ?_
    rintro e w1 ⟨rfl, bw⟩
    obtain ⟨w2, hw2⟩ : ∃ w2, w2 = w1.alloc (.cells #[.bool l, .string X, .string Y] 50) := ⟨_, rfl⟩
    have bw2 : Below w.heap.size w w2 := by rw [hw2]; exact bw.alloc bw.size _
    have hwy := why_nil w2
    have hc0 : w2.cell? ⟨w1.heap.size, 0, none⟩ = some (.bool l) := by rw [hw2]; simp
    have hc1 : w2.cell? ⟨w1.heap.size, 1, none⟩ = some (.string X) := by rw [hw2]; simp
    have hc2 : w2.cell? ⟨w1.heap.size, 2, none⟩ = some (.string Y) := by rw [hw2]; simp
    have hlt : w1.heap.size < w2.heap.size := by rw [hw2]; simp
    have HW := Lib.hid hwy
    have HC0 := Lib.hid hc0
    have HC1 := Lib.hid hc1
    have HC2 := Lib.hid hc2
    have HB := Lib.hid bw2
    have HW2 := Lib.hid hw2
    clear hwy hc0 hc1 hc2 bw2 bw hw2
    go_wp2_with fail
    rw [← HW2.out]
    refine HW.out.mono ?_
    rintro e w3 ⟨rfl, bw3⟩
    have hd0 : w3.cell? ⟨w1.heap.size, 0, none⟩ = some (.bool l) := (World.cell?_of_block (bw3.block _ hlt)).trans HC0.out
    have hd1 : w3.cell? ⟨w1.heap.size, 1, none⟩ = some (.string X) := (World.cell?_of_block (bw3.block _ hlt)).trans HC1.out
    have hd2 : w3.cell? ⟨w1.heap.size, 2, none⟩ = some (.string Y) := (World.cell?_of_block (bw3.block _ hlt)).trans HC2.out
    have HB3 := Lib.hid (HB.out.trans (bw3.mono HB.out.size))
    clear bw3
    go_wp2_with fail
    go_quiet (fail)
    go_wp2_with fail
    go_returns
    exact ⟨by rw [splitVal, ← HX.out, ← HY.out], below_drewN HB3.out _⟩
end Go.Proofs.YtgeonbkoihegnaaDoor

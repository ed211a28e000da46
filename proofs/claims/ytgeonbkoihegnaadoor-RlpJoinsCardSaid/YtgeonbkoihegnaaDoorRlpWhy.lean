import Derived.Test.YtgeonbkoihegnaaDoorRlpAsA
import Derived.Test.YtgeonbkoihegnaaDoorRlpAsB
import Derived.Test.YtgeonbkoihegnaaDoorRlpAsC
import Derived.Test.YtgeonbkoihegnaaDoorRlpAsD
import Derived.Handy
import Derived.Deep.RegionHeld
namespace Go.Proofs.YtgeonbkoihegnaaDoor
open Go.RowKit
set_option linter.unusedVariables false
set_option linter.unusedSimpArgs false
/-- Blocks that the world grew by lie above. -/
theorem Below.grownNone {B : Nat} {a b c : World} (h : Below B a b) (hB : B ≤ b.heap.size) (k : b.grownBy c none) : Below B a c := h.grown k hB (fun i hi => by cases hi)
theorem kept_cell {w W : World} (h : w.grownBy W none) {a : Addr} {v : Value} (hc : w.cell? a = some v) : W.cell? a = some v := h.cell hc (by simp)
theorem kept_frozen {w W : World} (h : w.grownBy W none) {a : Addr} {v : Value} (hc : w.cell? a = some v) (hf : w.frozen? a = false) : W.frozen? a = false := by
  rw [World.frozen?_of_block (h.block a.block (World.block_lt_of_cell? w a hc) (by simp))]
  exact hf
/-- Where a fault is. -/
theorem at_any (x y : Int) (w : World) :
    Calls Tryd.prog 76 #[.agg #[.int .i64 x, .int .i64 y]] w fun e w' => e = .returned (.int .i64 x) ∧ w' = w.alloc (.cells #[.int .i64 x, .int .i64 y] 76) := by
  go_enter Tryd.func76, Tryd.ntmps76
  go_wp2_with fail
  go_ret
  exact ⟨rfl, rfl⟩
set_option maxRecDepth 100000 in
set_option maxHeartbeats 1000000 in
/-- rlp.Why of nothing wrong. -/
theorem why_nil (w : World) :
    Calls Tryd.prog 26 #[.nilIface] w fun e w' => e = .returned (.tuple #[.int .i64 (-1), .int .i64 0]) ∧ Below w.heap.size w w' := by
  go_enter Tryd.func26, Tryd.ntmps26
  go_wp2_with fail
  refine (as_nil _ _).mono ?_
  rintro e w1 ⟨rfl, rfl⟩
  go_wp2_with fail
  refine (as_nil _ _).mono ?_
  rintro e w1 ⟨rfl, rfl⟩
  go_wp2_with fail
  go_quiet (fail)
  go_wp2_with fail
  go_returns
  exact ⟨rfl, below_drewN (((Below.refl _ _).alloc (Nat.le_refl _) _).alloc (by simp) _) _⟩
set_option maxRecDepth 100000 in
set_option maxHeartbeats 1000000 in
/-- rlp.Why of a fault. -/
theorem why_fault (x y : Int) (w : World) (hg : w.cell? ⟨2, 0, none⟩ = some (rt 52)) :
    Calls Tryd.prog 26 #[.iface 76 (.agg #[.int .i64 x, .int .i64 y])] w fun e w' => e = .returned (.tuple #[.int .i64 x, .int .i64 y]) ∧ Below w.heap.size w w' := by
  have hlt : 2 < w.heap.size := World.block_lt_of_cell? w ⟨2, 0, none⟩ hg
  have HG := Lib.hid hg
  clear hg
  go_enter Tryd.func26, Tryd.ntmps26
  go_wp2_with fail
  have h2 : 2 < ((w.alloc (.cells #[.int .i64 0] 24)).alloc (.cells #[.nilIface] 70)).heap.size := by simp; omega
  refine (as_fault_place x y (w.heap.size + 1) .nilIface _ (by rw [World.cell?_alloc_at _ _ _ _ (by simp)]; rfl) (World.frozen?_alloc_at _ _ _ _ (by simp))).mono ?_
  rintro e w1 ⟨rfl, W1, g1, rfl⟩
  have bel1 : Below w.heap.size w W1 := Below.grownNone (((Below.refl _ _).alloc (Nat.le_refl _) _).alloc (by simp) _) (by simp; omega) g1
  have hW : w.heap.size + 1 < W1.heap.size := by have := g1.size; simp at this; omega
  have c5 : W1.cell? ⟨w.heap.size, 0, none⟩ = some (.int .i64 0) := kept_cell g1 (by rw [World.cell?_alloc_lt _ _ ⟨w.heap.size, 0, none⟩ (by simp), World.cell?_alloc_new]; rfl)
  have f5 : W1.frozen? ⟨w.heap.size, 0, none⟩ = false := kept_frozen g1 (v := .int .i64 0) (by rw [World.cell?_alloc_lt _ _ ⟨w.heap.size, 0, none⟩ (by simp), World.cell?_alloc_new]; rfl) (by rw [World.frozen?_alloc_past _ _ _ (by simp)]; exact World.frozen?_alloc_at _ _ _ _ rfl)
  have c6 : ∃ v, W1.cell? ⟨w.heap.size + 1, 0, none⟩ = some v := ⟨_, kept_cell g1 (v := .nilIface) (by rw [World.cell?_alloc_at _ _ _ _ (by simp)]; rfl)⟩
  have c2 : W1.cell? ⟨2, 0, none⟩ = some (rt 52) := kept_cell g1 (by rw [World.cell?_alloc_lt _ _ ⟨2, 0, none⟩ (by simp; omega), World.cell?_alloc_lt _ _ ⟨2, 0, none⟩ hlt]; exact HG.out)
  obtain ⟨v6, c6⟩ := c6
  obtain ⟨w1, hw1⟩ : ∃ w1, w1 = W1.setCell ⟨w.heap.size + 1, 0, none⟩ (.iface 76 (.agg #[.int .i64 x, .int .i64 y])) := ⟨_, rfl⟩
  have d6 : w1.cell? ⟨w.heap.size + 1, 0, none⟩ = some (.iface 76 (.agg #[.int .i64 x, .int .i64 y])) := by rw [hw1]; exact World.cell?_setCell_same _ _ _ c6
  have d5 : w1.cell? ⟨w.heap.size, 0, none⟩ = some (.int .i64 0) := by rw [hw1, World.cell?_setCell_far _ _ _ _ (by simp)]; exact c5
  have e5 : w1.frozen? ⟨w.heap.size, 0, none⟩ = false := by rw [hw1, World.frozen?_setCell]; exact f5
  have d2 : w1.cell? ⟨2, 0, none⟩ = some (rt 52) := by rw [hw1, World.cell?_setCell_far _ _ _ _ (by simp; omega)]; exact c2
  have bel : Below w.heap.size w w1 := by rw [hw1]; exact bel1.setCell (by simp) _
  rw [← hw1]
  have HD2 := Lib.hid d2
  have HD5 := Lib.hid d5
  have HE5 := Lib.hid e5
  have HBL := Lib.hid bel
  have hsz : w.heap.size + 1 < w1.heap.size := by rw [hw1]; simpa using hW
  clear hw1 d2 d5 e5 bel c2 c6 f5 c5 bel1 g1 hW h2
  have mA := As.mAt
  go_wp2_with fail
  refine (at_any x y w1).mono ?_
  rintro e w2 ⟨rfl, hw2⟩
  obtain ⟨W2, hW2⟩ : ∃ W2, W2 = w2 := ⟨_, rfl⟩
  have g2 : w1.grownBy w2 none := by rw [hw2]; exact World.grownBy_alloc _ _ _
  have bel2 : Below w.heap.size w w2 := Below.grownNone HBL.out (by omega) g2
  have m5 : w2.cell? ⟨w.heap.size, 0, none⟩ = some (.int .i64 0) := kept_cell g2 HD5.out
  have mf5 : w2.frozen? ⟨w.heap.size, 0, none⟩ = false := kept_frozen g2 HD5.out HE5.out
  have m2 : w2.cell? ⟨2, 0, none⟩ = some (rt 52) := kept_cell g2 HD2.out
  have hs2 : w.heap.size + 1 < w2.heap.size := Nat.lt_of_lt_of_le hsz g2.size
  have HM5 := Lib.hid m5
  have HF5 := Lib.hid mf5
  have HM2 := Lib.hid m2
  have HB2 := Lib.hid bel2
  clear hw2 g2 bel2 m5 mf5 m2 hW2 mA
  go_wp2_with fail
  refine (as_fault_number x y w.heap.size (.int .i64 0) w2 HM2.out HM5.out HF5.out).mono ?_
  rintro e w3 ⟨rfl, W3, g3, rfl⟩
  have bel3 : Below w.heap.size w (W3.setCell ⟨w.heap.size, 0, none⟩ (.int .i64 y)) := (Below.grownNone HB2.out (by omega) g3).setCell (Nat.le_refl _) _
  have hc : (W3.setCell ⟨w.heap.size, 0, none⟩ (.int .i64 y)).cell? ⟨w.heap.size, 0, none⟩ = some (.int .i64 y) := World.cell?_setCell_same _ _ _ (kept_cell g3 HM5.out)
  obtain ⟨w3, hw3⟩ : ∃ w3, w3 = W3.setCell ⟨w.heap.size, 0, none⟩ (.int .i64 y) := ⟨_, rfl⟩
  rw [← hw3] at bel3 hc ⊢
  have HB3 := Lib.hid bel3
  clear hw3 bel3 g3
  go_wp2_with fail
  go_quiet (fail)
  go_wp2_with fail
  go_returns
  exact ⟨rfl, below_drewN HB3.out _⟩
set_option maxRecDepth 100000 in
set_option maxHeartbeats 1000000 in
/-- rlp.Why of a number. -/
theorem why_errno (n : Int) (w : World) (hg : w.cell? ⟨2, 0, none⟩ = some (rt 52)) :
    Calls Tryd.prog 26 #[.iface 24 (.int .i64 n)] w fun e w' => e = .returned (.tuple #[.int .i64 (-1), .int .i64 n]) ∧ Below w.heap.size w w' := by
  have hlt : 2 < w.heap.size := World.block_lt_of_cell? w ⟨2, 0, none⟩ hg
  have HG := Lib.hid hg
  clear hg
  go_enter Tryd.func26, Tryd.ntmps26
  go_wp2_with fail
  refine (as_errno_place n (w.heap.size + 1) .nilIface _ (by rw [World.cell?_alloc_at _ _ _ _ (by simp)]; rfl) (World.frozen?_alloc_at _ _ _ _ (by simp))).mono ?_
  rintro e w1 ⟨rfl, g1⟩
  have bel1 : Below w.heap.size w w1 := Below.grownNone (((Below.refl _ _).alloc (Nat.le_refl _) _).alloc (by simp) _) (by simp; omega) g1
  have hW : w.heap.size + 1 < w1.heap.size := by have := g1.size; simp at this; omega
  have c5 : w1.cell? ⟨w.heap.size, 0, none⟩ = some (.int .i64 0) := kept_cell g1 (by rw [World.cell?_alloc_lt _ _ ⟨w.heap.size, 0, none⟩ (by simp), World.cell?_alloc_new]; rfl)
  have f5 : w1.frozen? ⟨w.heap.size, 0, none⟩ = false := kept_frozen g1 (v := .int .i64 0) (by rw [World.cell?_alloc_lt _ _ ⟨w.heap.size, 0, none⟩ (by simp), World.cell?_alloc_new]; rfl) (by rw [World.frozen?_alloc_past _ _ _ (by simp)]; exact World.frozen?_alloc_at _ _ _ _ rfl)
  have c2 : w1.cell? ⟨2, 0, none⟩ = some (rt 52) := kept_cell g1 (by rw [World.cell?_alloc_lt _ _ ⟨2, 0, none⟩ (by simp; omega), World.cell?_alloc_lt _ _ ⟨2, 0, none⟩ hlt]; exact HG.out)
  have HC5 := Lib.hid c5
  have HF5 := Lib.hid f5
  have HC2 := Lib.hid c2
  have HB1 := Lib.hid bel1
  clear bel1 c5 f5 c2 g1
  go_wp2_with fail
  refine (as_errno_number n w.heap.size (.int .i64 0) w1 HC2.out HC5.out HF5.out).mono ?_
  rintro e w3 ⟨rfl, W3, g3, rfl⟩
  have bel3 : Below w.heap.size w (W3.setCell ⟨w.heap.size, 0, none⟩ (.int .i64 n)) := (Below.grownNone HB1.out (by omega) g3).setCell (Nat.le_refl _) _
  have hc : (W3.setCell ⟨w.heap.size, 0, none⟩ (.int .i64 n)).cell? ⟨w.heap.size, 0, none⟩ = some (.int .i64 n) := World.cell?_setCell_same _ _ _ (kept_cell g3 HC5.out)
  obtain ⟨w3, hw3⟩ : ∃ w3, w3 = W3.setCell ⟨w.heap.size, 0, none⟩ (.int .i64 n) := ⟨_, rfl⟩
  rw [← hw3] at bel3 hc ⊢
  have HB3 := Lib.hid bel3
  clear hw3 bel3 g3
  go_wp2_with fail
  go_quiet (fail)
  go_wp2_with fail
  go_returns
  exact ⟨rfl, below_drewN HB3.out _⟩
end Go.Proofs.YtgeonbkoihegnaaDoor

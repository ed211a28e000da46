/-
  Whether a reply, and a notice, of layer 16's laws are looked at: nothing turns; and how long the lists then are (written by makers/frmfew2.py).
-/
import Derived.Test.YtlbebdkockejcaaGreatDoorFrmRep
import Derived.Test.YtlbebdkockejcaaGreatDoorFrmNtc
import Derived.LoopIn
import Derived.Handy
namespace Go.Proofs.YtlbebdkockejcaaGreatDoor
open Go.RowKit Go.Proofs.Frm Go.Proofs.Mdl
set_option linter.unusedVariables false
set_option linter.unusedSimpArgs false
/-- A Boolean; nothing that was there turns. -/
structure FFew2 (z y : Nat) (w : World) (e : Ending) (w' : World) : Prop where
  out : ∃ b, e = .returned (.bool b) ∧ Below w.heap.size w w' ∧ (b = true → z ≤ 10 ∧ y ≤ 90)
set_option maxRecDepth 100000 in
set_option maxHeartbeats 4000000 in
theorem ffew2_any {w : World} {vr vn : Value} {r : Frm.Rep} {n : Frm.Ntc} (h1 : Es w vr r.entries) (h2 : Cs w vn n.changes) :
    Calls Tryz.prog 6 #[.agg (Go.Proofs.YtlbebdkockejcaaGreatDoor.cellR r vr).toArray, .agg (cellN n vn).toArray] w (FFew2 r.entries.length n.changes.length w) := by
  obtain ⟨x1, x2, x3, x4, x5, l, x7, x8⟩ := r
  obtain ⟨n1, n2, n3, n4, c⟩ := n
  simp only at h1 h2
  unfold Go.Proofs.YtlbebdkockejcaaGreatDoor.cellR cellN
  obtain ⟨A1, c1, rfl⟩ := h1.shape
  obtain ⟨A2, c2, rfl⟩ := h2.shape
  obtain ⟨w2, g, p, hw, e_g, e_p, hb, bg, bp, hz⟩ := boxes2 w 27 30 #[.int .i64 x1, .int .i64 x2, .int .i64 x3, .int .i64 x4, .string x5, .slice A1 l.length c1, .string x7, .bool x8] #[.int .i64 n1, .int .i64 n2, .int .i64 n3, .string n4, .slice A2 c.length c2]
  have HE := Lib.hid (h1.below hb)
  have HC := Lib.hid (h2.below hb)
  obtain ⟨z, hzl⟩ : ∃ z, z = l.length := ⟨_, rfl⟩
  obtain ⟨y, hyl⟩ : ∃ y, y = c.length := ⟨_, rfl⟩
  rw [← hzl] at bg HE
  rw [← hyl] at bp HC
  simp only [← hzl, ← hyl] at hw ⊢
  have HZ := Lib.hid hzl
  have HY := Lib.hid hyl
  have HB := Lib.hid hb
  have g0 := bg.cell 0
  have g1 := bg.cell 1
  have g2 := bg.cell 2
  have g3 := bg.cell 3
  have g4 := bg.cell 4
  have g5 := bg.cell 5
  have g6 := bg.cell 6
  have g7 := bg.cell 7
  have p0 := bp.cell 0
  have p1 := bp.cell 1
  have p2 := bp.cell 2
  have p3 := bp.cell 3
  have p4 := bp.cell 4
  simp only [List.getElem?_toArray, List.getElem?_cons_succ, List.getElem?_cons_zero] at g0 g1 g2 g3 g4 g5 g6 g7 p0 p1 p2 p3 p4
  clear h1 h2 hb bg bp hz hzl hyl
  go_enter Tryz.func6, Tryz.ntmps6
  go_upto_region 1 with (fail)
  rw [← hw, ← e_p, ← e_g]
  clear hw e_p e_g
  go_wp2_with fail
  go_loopw [5] (fun vi wr => ∃ k : Nat, vi = .int .i64 (k : Int) ∧ k ≤ z ∧ k ≤ 11 ∧ Hid (wr = w2)) (fun vi _ => 11 - (intOf vi).toNat)
  case atStart => exact ⟨0, rfl, Nat.zero_le _, Nat.zero_le _, Lib.hid rfl⟩
  case round =>
    obtain ⟨k, rfl, hk, h46, HW⟩ := hrel
    obtain rfl := HW.out
    clear HW
    by_cases hlt : k < z ∧ k ≤ 10
    · obtain ⟨x, hx⟩ : ∃ x, l[k]? = some x := ⟨_, List.getElem?_eq_getElem (by rw [← HZ.out]; exact hlt.1)⟩
      obtain ⟨b, o, c', hv, hbl, d0, d1⟩ := HE.out.at_ hx
      simp only [Value.slice.injEq] at hv
      obtain ⟨rfl, -, -⟩ := hv
      have i1 : (k : Int) < (z : Int) := by omega
      have i2 : (k : Int) ≤ 10 := by omega
      have wk : IntKind.i64.wrap ((k : Int) + 1) = (k : Int) + 1 := IntWalk.i64_in _ (by omega)
      obtain ⟨hl1, hl2⟩ := hlt
      clear hx
      go_wp2_with fail
      case roundEnd => exact ⟨⟨k + 1, rfl, hl1, by omega, Lib.hid trivial⟩, by simp [intOf]; omega⟩
      all_goals
        go_ret
        exact ⟨⟨_, rfl, HB.out, fun hb => by first | (exfalso; simp at hb; done) | (exfalso; simp at hb; omega) | (simp at hb; omega) | omega⟩⟩
    · by_cases i1 : (k : Int) < (z : Int)
      · have i2 : ¬ (k : Int) ≤ 10 := by omega
        go_wp2_with fail
        go_loopw [6] (fun vi wr' => ∃ q : Nat, vi = .int .i64 (q : Int) ∧ q ≤ y ∧ q ≤ 91 ∧ Hid (wr' = wr)) (fun vi _ => 91 - (intOf vi).toNat)
        case atStart => exact ⟨0, rfl, Nat.zero_le _, Nat.zero_le _, Lib.hid rfl⟩
        case round =>
          obtain ⟨q, rfl, hq, hq46, HW⟩ := hrel
          obtain rfl := HW.out
          clear HW
          by_cases hlq : q < y ∧ q ≤ 90
          · obtain ⟨x, hx⟩ : ∃ x, c[q]? = some x := ⟨_, List.getElem?_eq_getElem (by rw [← HY.out]; exact hlq.1)⟩
            obtain ⟨b, o, c', hv, hbl, d0, d1, d2⟩ := HC.out.at_ hx
            simp only [Value.slice.injEq] at hv
            obtain ⟨rfl, -, -⟩ := hv
            have j1 : (q : Int) < (y : Int) := by omega
            have j2 : (q : Int) ≤ 90 := by omega
            have wq : IntKind.i64.wrap ((q : Int) + 1) = (q : Int) + 1 := IntWalk.i64_in _ (by omega)
            obtain ⟨hl1, hl2⟩ := hlq
            clear hx
            go_wp2_with fail
            case roundEnd => exact ⟨⟨q + 1, rfl, hl1, by omega, Lib.hid trivial⟩, by simp [intOf]; omega⟩
            all_goals
              go_ret
              exact ⟨⟨_, rfl, HB.out, fun hb => by first | (exfalso; simp at hb; done) | (exfalso; simp at hb; omega) | (simp at hb; omega) | omega⟩⟩
          · by_cases j1 : (q : Int) < (y : Int)
            · have j2 : ¬ (q : Int) ≤ 90 := by omega
              go_wp2_with fail
              all_goals
                go_ret
                exact ⟨⟨_, rfl, HB.out, fun hb => by first | (exfalso; simp at hb; done) | (exfalso; simp at hb; omega) | (simp at hb; omega) | omega⟩⟩
            · go_wp2_with fail
              all_goals
                go_ret
                exact ⟨⟨_, rfl, HB.out, fun hb => by first | (exfalso; simp at hb; done) | (exfalso; simp at hb; omega) | (simp at hb; omega) | omega⟩⟩
      · skip
        go_wp2_with fail
        go_loopw [6] (fun vi wr' => ∃ q : Nat, vi = .int .i64 (q : Int) ∧ q ≤ y ∧ q ≤ 91 ∧ Hid (wr' = wr)) (fun vi _ => 91 - (intOf vi).toNat)
        case atStart => exact ⟨0, rfl, Nat.zero_le _, Nat.zero_le _, Lib.hid rfl⟩
        case round =>
          obtain ⟨q, rfl, hq, hq46, HW⟩ := hrel
          obtain rfl := HW.out
          clear HW
          by_cases hlq : q < y ∧ q ≤ 90
          · obtain ⟨x, hx⟩ : ∃ x, c[q]? = some x := ⟨_, List.getElem?_eq_getElem (by rw [← HY.out]; exact hlq.1)⟩
            obtain ⟨b, o, c', hv, hbl, d0, d1, d2⟩ := HC.out.at_ hx
            simp only [Value.slice.injEq] at hv
            obtain ⟨rfl, -, -⟩ := hv
            have j1 : (q : Int) < (y : Int) := by omega
            have j2 : (q : Int) ≤ 90 := by omega
            have wq : IntKind.i64.wrap ((q : Int) + 1) = (q : Int) + 1 := IntWalk.i64_in _ (by omega)
            obtain ⟨hl1, hl2⟩ := hlq
            clear hx
            go_wp2_with fail
            case roundEnd => exact ⟨⟨q + 1, rfl, hl1, by omega, Lib.hid trivial⟩, by simp [intOf]; omega⟩
            all_goals
              go_ret
              exact ⟨⟨_, rfl, HB.out, fun hb => by first | (exfalso; simp at hb; done) | (exfalso; simp at hb; omega) | (simp at hb; omega) | omega⟩⟩
          · by_cases j1 : (q : Int) < (y : Int)
            · have j2 : ¬ (q : Int) ≤ 90 := by omega
              go_wp2_with fail
              all_goals
                go_ret
                exact ⟨⟨_, rfl, HB.out, fun hb => by first | (exfalso; simp at hb; done) | (exfalso; simp at hb; omega) | (simp at hb; omega) | omega⟩⟩
            · go_wp2_with fail
              all_goals
                go_ret
                exact ⟨⟨_, rfl, HB.out, fun hb => by first | (exfalso; simp at hb; done) | (exfalso; simp at hb; omega) | (simp at hb; omega) | omega⟩⟩
end Go.Proofs.YtlbebdkockejcaaGreatDoor

import Derived.Test.YtgeonbkoihegnaaNibPlain
namespace Go.Proofs.Ytgeonbkoihegnaa
open Go.RowKit
set_option maxHeartbeats 400000 in
/-- nibble.Path: the path of a text. -/
theorem path_any (s : ByteArray) (w : World) (hs : s.size ≤ 70368744177664) :
    Calls Try.prog 11 #[.string s] w fun e w' => e = .returned (.string (Nib.bs (Nib.path s.data.toList))) ∧ Below w.heap.size w w' := by
  have hmk : ∀ w : World, (Instr.makeSlice 31 (.int .i64 (2 * (s.size : Int))) (.int .i64 (2 * (s.size : Int)))).run Try.prog w = .ok (.slice (some ⟨w.heap.size, 0, none⟩) (2 * s.size) (2 * s.size)) (w.alloc (.cells (madeCells #[.int .u8 0] (2 * s.size)) 5)) := fun w => by
    have h := run_make_row' (P := Try.prog) 31 5 (.int .u8 0) 1 Try.underlying31 infoU8 rfl .i64 .i64 (2 * s.size) (by omega) (by omega) w
    rwa [show ((2 * s.size : Nat) : Int) = 2 * (s.size : Int) by omega] at h
  obtain ⟨p, hp⟩ : ∃ p, p = Nib.path s.data.toList := ⟨_, rfl⟩
  have hpl : p.length = 2 * s.size := by rw [hp, Nib.path_length, Nib.len_of]
  have HP := Lib.hid hp
  have HPL := Lib.hid hpl
  rw [← hp]
  clear hp hpl
  go_enter Try.func11, Try.ntmps11
  go_wp2
  go_loopw [11] (fun vi wr => ∃ k : Nat, k ≤ s.size ∧ vi = .int .i64 k ∧ Hid (wr.rowIs w.heap.size 5 (2 * s.size) (rowOf p (2 * k))) ∧ Hid (Below w.heap.size w wr)) (fun vi _ => s.size - (intOf vi).toNat)
  case atStart => exact ⟨0, Nat.zero_le _, rfl, (World.rowIs_made w _ _ _).congr (fun j _ => rowOf_zero _ _), (Below.refl _ _).alloc (Nat.le_refl _) _⟩
  case round =>
    obtain ⟨k, hk, rfl, hrw, hbl⟩ := hrel
    by_cases hlt : k < s.size
    · have hf1 : wr.frozen? ⟨w.heap.size, 2 * k, none⟩ = false := hrw.out.frozen _
      have hc1 : wr.cell? ⟨w.heap.size, 2 * k, none⟩ = some (rowOf p (2 * k) (2 * k)) := hrw.out.cell (by omega)
      have hf2 : ∀ v, (wr.setCell ⟨w.heap.size, 2 * k, none⟩ v).frozen? ⟨w.heap.size, 2 * k + 1, none⟩ = false := fun v => (hrw.out.set _ v).frozen _
      have hc2 : ∀ v, (wr.setCell ⟨w.heap.size, 2 * k, none⟩ v).cell? ⟨w.heap.size, 2 * k + 1, none⟩ = some (rowOf p (2 * k) (2 * k + 1)) := fun v => by
        have := (hrw.out.set (2 * k) v).cell (i := 2 * k + 1) (by omega)
        rwa [if_neg (by omega)] at this
      have hf0 : wr.frozen? ⟨w.heap.size, 2 * k + 1, none⟩ = false := hrw.out.frozen _
      have hc0 : wr.cell? ⟨w.heap.size, 2 * k + 1, none⟩ = some (rowOf p (2 * k) (2 * k + 1)) := hrw.out.cell (by omega)
      have HA : Hid (p[2 * k]? = some (s[k] / 16) ∧ p[2 * k + 1]? = some (s[k] % 16)) := by
        have := Nib.path_at s.data.toList k (by simpa using hlt)
        rw [byte_get s k hlt, ← HP.out] at this
        exact this
      go_wp2
      go_region
      all_goals go_wp2
      all_goals go_roundw
      case rel =>
        refine ⟨k + 1, by omega, by go_num, ((hrw.out.set _ _).set _ _).congr (fun j _ => ?_), ((hbl.out.setCell (Nat.le_refl _) _).setCell (Nat.le_refl _) _).drew⟩
        have h256 := s[k].toNat_lt
        rw [rowOf_step p (2 * k) _ HA.out.1 _ (by simp) j, rowOf_step p (2 * k + 1) _ HA.out.2 _ (by rw [u8_and15 _ (by omega) (by omega)]; simp) j]
        rfl
      case measure => simp [intOf]; omega
    · have hk2 : k = s.size := by omega
      subst hk2
      have g := run_convert_bytes_arg (P := Try.prog) wr 31 5 Try.underlying31 Try.underlying5 w.heap.size 0 (2 * s.size) (2 * s.size) (p.map fun b => (b.toNat : Int)) (by rw [List.length_map, HPL.out]) (fun i hi => by
        rw [Nat.zero_add, hrw.out.cell hi, ← HPL.out, rowOf_full _ _ (by rw [HPL.out]; exact hi)]) 9 Try.underlying9
      rw [strOfNums_bytes] at g
      go_wp2
      go_ret
      exact ⟨rfl, hbl.out⟩
end Go.Proofs.Ytgeonbkoihegnaa

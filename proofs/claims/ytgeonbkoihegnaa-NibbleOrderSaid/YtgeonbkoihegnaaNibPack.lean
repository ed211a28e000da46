import Derived.Test.YtgeonbkoihegnaaNibPath
namespace Go.Proofs.Ytgeonbkoihegnaa
open Go.RowKit
theorem or_join (x y : UInt8) (hx : (x.toNat : Int) ≤ 15) (hy : (y.toNat : Int) ≤ 15) : bits BinOp.or IntKind.u8 ((x.toNat : Int) * 16) (y.toNat : Int) = ((x * 16 + y).toNat : Int) := by
  rw [bits_join .u8 8 (by decide) wraps_u8 4 _ _ (by omega) (by omega) (by omega) (by omega) (by omega) (by omega)]
  rw [UInt8.toNat_add, UInt8.toNat_mul]
  simp
  omega
set_option maxHeartbeats 400000 in
/-- nibble.Valid. -/
theorem valid_any (s : ByteArray) (w : World) (hs : s.size ≤ 70368744177664) :
    Calls Try.prog 13 #[.string s] w fun e w' => e = .returned (.bool (Nib.valid s.data.toList)) ∧ w = w' := by
  obtain ⟨r, hr⟩ : ∃ r, r = Nib.valid s.data.toList := ⟨_, rfl⟩
  rw [← hr]
  have HR := Lib.hid hr
  clear hr
  go_enter Try.func13, Try.ntmps13
  go_wp2
  go_loop [6] (fun vi => ∃ k : Nat, k ≤ s.size ∧ vi = .int .i64 k ∧ Hid (Nib.valid (s.data.toList.take k) = true)) (fun vi => s.size - (intOf vi).toNat)
  case atStart => exact ⟨0, Nat.zero_le _, rfl, rfl⟩
  case round =>
    obtain ⟨k, hk, rfl, hv⟩ := hrel
    by_cases hlt : k < s.size
    · have HT : Hid (s.data.toList.take (k + 1) = s.data.toList.take k ++ [s[k]]) := by
        rw [List.take_succ_eq_append_getElem (by simpa using hlt), byte_get s k hlt]; exact rfl
      by_cases hb : (15 : Int) < (s[k].toNat : Int)
      · have hf : r = false := by
          rw [HR.out, ← List.take_append_drop (k + 1) s.data.toList, Nib.valid_append, HT.out, Nib.valid_append]
          have : Nib.valid [s[k]] = false := by
            simp [Nib.valid, UInt8.lt_iff_toNat_lt]; omega
          rw [this]
          simp
        have HF := Lib.hid hf
        clear hf
        go_wp2
        go_ret
        exact ⟨by rw [HF.out]; rfl, rfl⟩
      · go_wp2
        go_round
        case rel =>
          have hnew : Nib.valid (s.data.toList.take (k + 1)) = true := by
            rw [HT.out, Nib.valid_append, hv.out]
            have : Nib.valid [s[k]] = true := by
              simp [Nib.valid, UInt8.le_iff_toNat_le]; omega
            rw [this]; rfl
          exact ⟨k + 1, by omega, by go_num, hnew⟩
        case measure => simp [intOf]; omega
    · have hk2 : k = s.size := by omega
      subst hk2
      go_wp2
      go_ret
      have := hv.out
      rw [List.take_of_length_le (by simp)] at this
      exact ⟨by rw [HR.out, this]; rfl, rfl⟩
set_option maxHeartbeats 400000 in
/-- nibble.Common. -/
theorem common_quiet (a b : ByteArray) (w : World) (ha : a.size ≤ 140737488355328) (hb : b.size ≤ 140737488355328) :
    Calls Try.prog 15 #[.string a, .string b] w fun e w' => e = .returned (.int .i64 (Nib.common a.data.toList b.data.toList : Nat)) ∧ ∃ q, w' = w.drewN q := by
  obtain ⟨r, hr⟩ : ∃ r, r = Nib.common a.data.toList b.data.toList := ⟨_, rfl⟩
  rw [← hr]
  have HR := Lib.hid hr
  clear hr
  have hcase : b.size < a.size ∨ ¬ b.size < a.size := Nat.lt_or_ge b.size a.size |>.imp id Nat.not_lt.2
  rcases hcase with hab | hab
  all_goals
    go_enter Try.func15, Try.ntmps15
    go_wp2
    go_loopw [11] (fun vi wr => ∃ k : Nat, k ≤ a.size ∧ k ≤ b.size ∧ vi = .int .i64 k ∧ Hid (∀ i (h1 : i < a.data.toList.length) (h2 : i < b.data.toList.length), i < k → a.data.toList[i] = b.data.toList[i]) ∧ Hid (∃ q, wr = w.drewN q)) (fun vi _ => a.size - (intOf vi).toNat)
    case atStart => exact ⟨0, Nat.zero_le _, Nat.zero_le _, rfl, fun i _ _ h => absurd h (Nat.not_lt_zero _), ⟨0, rfl⟩⟩
    case round =>
      obtain ⟨k, hka, hkb, rfl, hall, q, rfl⟩ := hrel
      by_cases hlt : k < a.size ∧ k < b.size
      · obtain ⟨hlta, hltb⟩ := hlt
        have ea := byte_get a k hlta
        have eb := byte_get b k hltb
        have EA := Lib.hid ea
        have EB := Lib.hid eb
        clear ea eb
        by_cases hne : a[k] = b[k]
        · have HNE := Lib.hid hne
          have hd : ((a[k].toNat : Int) != (b[k].toNat : Int)) = false := by rw [hne]; simp
          clear hne
          go_wp2
          go_quiet (fail)
          go_wp2
          go_roundw
          case rel =>
            refine ⟨k + 1, by omega, by omega, by go_num, ?_, ⟨_, rfl⟩⟩
            intro i h1 h2 hi
            by_cases hik : i = k
            · subst hik
              rw [EA.out, EB.out, HNE.out]
            · exact hall.out i h1 h2 (by omega)
          case measure => simp [intOf]; omega
        · have hd : ((a[k].toNat : Int) != (b[k].toNat : Int)) = true := by
            rw [bne_iff_ne]
            intro h
            exact hne (UInt8.toNat_inj.1 (by exact_mod_cast h))
          have HNE := Lib.hid hne
          clear hne
          go_wp2
          go_quiet (fail)
          go_wp2
          go_ret
          have hr : r = k := by
            rw [HR.out]
            exact Nib.common_is _ _ k (by simpa using hka) (by simpa using hkb) (fun i h1 h2 hi => hall.out i h1 h2 hi) (.inr (.inr ⟨by simpa using hlta, by simpa using hltb, by rw [EA.out, EB.out]; exact HNE.out⟩))
          exact ⟨by rw [hr]; rfl, ⟨_, World.drewN_drewN _ _ _⟩⟩
      · have hr : r = k := by
          rw [HR.out]
          exact Nib.common_is _ _ k (by simpa using hka) (by simpa using hkb) (fun i h1 h2 hi => hall.out i h1 h2 hi) (by simp; omega)
        have hkm : k = min a.size b.size := by omega
        have hle : a.size ≤ k ∨ b.size ≤ k := by omega
        have HRK := Lib.hid (hr.trans hkm)
        clear hr hkm
        go_wp2
        go_ret
        have hrk := HRK.out
        exact ⟨ret_int (by omega), ⟨q, rfl⟩⟩
theorem common_any (a b : ByteArray) (w : World) (ha : a.size ≤ 140737488355328) (hb : b.size ≤ 140737488355328) :
    Calls Try.prog 15 #[.string a, .string b] w fun e w' => e = .returned (.int .i64 (Nib.common a.data.toList b.data.toList : Nat)) ∧ Below w.heap.size w w' := by
  refine (common_quiet a b w ha hb).mono ?_
  rintro e w' ⟨rfl, q, rfl⟩
  exact ⟨rfl, below_drewN (Below.refl _ _) _⟩
/-- nibble.pack. -/
theorem pack_any (s : ByteArray) (w : World) (hs : s.size ≤ 70368744177664) (hv : Nib.valid s.data.toList = true) :
    Calls Try.prog 19 #[.string s] w fun e w' => e = .returned (.string (Nib.bs (Nib.pack s.data.toList))) ∧ Below w.heap.size w w' := by
  obtain ⟨c, hc⟩ : ∃ c, c = s.size / 2 := ⟨_, rfl⟩
  have hcs : c ≤ s.size := by omega
  have hmk : ∀ w : World, (Instr.makeSlice 31 (.int .i64 ((s.size : Int) / 2)) (.int .i64 ((s.size : Int) / 2))).run Try.prog w = .ok (.slice (some ⟨w.heap.size, 0, none⟩) c c) (w.alloc (.cells (madeCells #[.int .u8 0] c) 5)) := fun w => by
    have h := run_make_row' (P := Try.prog) 31 5 (.int .u8 0) 1 Try.underlying31 infoU8 rfl .i64 .i64 c (by omega) (by omega) w
    rwa [show ((c : Nat) : Int) = (s.size : Int) / 2 by omega] at h
  obtain ⟨p, hp⟩ : ∃ p, p = Nib.pack s.data.toList := ⟨_, rfl⟩
  have hpl : p.length = c := by rw [hp, Nib.pack_length, Nib.len_of, hc]
  have HP := Lib.hid hp
  have HPL := Lib.hid hpl
  have HC : 2 * c ≤ s.size := by omega
  have HV : Hid (Nib.valid s.data.toList = true) := hv
  rw [← hp]
  clear hp hpl hc hv
  go_enter Try.func19, Try.ntmps19
  go_wp2
  go_loopw [11] (fun vi wr => ∃ k : Nat, k ≤ c ∧ vi = .int .i64 k ∧ Hid (wr.rowIs w.heap.size 5 c (rowOf p k)) ∧ Hid (Below w.heap.size w wr)) (fun vi _ => c - (intOf vi).toNat)
  case atStart => exact ⟨0, Nat.zero_le _, rfl, (World.rowIs_made w _ _ _).congr (fun j _ => rowOf_zero _ _), (Below.refl _ _).alloc (Nat.le_refl _) _⟩
  case round =>
    obtain ⟨k, hk, rfl, hrw, hbl⟩ := hrel
    by_cases hlt : k < c
    · have hf1 : wr.frozen? ⟨w.heap.size, k, none⟩ = false := hrw.out.frozen _
      have hc1 : wr.cell? ⟨w.heap.size, k, none⟩ = some (rowOf p k k) := hrw.out.cell (by omega)
      have hi0 : 2 * k < s.size := by omega
      have hi1 : 2 * k + 1 < s.size := by omega
      have HA : Hid (p[k]? = some (s[2 * k] * 16 + s[2 * k + 1])) := by
        have := Nib.pack_at s.data.toList k (by simpa using hi1)
        rw [byte_get s _ hi0, byte_get s _ hi1, ← HP.out] at this
        exact this
      have hb0 : ((s[2 * k]).toNat : Int) ≤ 15 := by
        have := List.all_eq_true.1 HV.out (s[2 * k]) (by rw [← byte_get s _ hi0]; exact List.getElem_mem _)
        simp [UInt8.le_iff_toNat_le] at this; omega
      have hb1 : ((s[2 * k + 1]).toNat : Int) ≤ 15 := by
        have := List.all_eq_true.1 HV.out (s[2 * k + 1]) (by rw [← byte_get s _ hi1]; exact List.getElem_mem _)
        simp [UInt8.le_iff_toNat_le] at this; omega
      have hj0 : 2 * (k : Int) < (s.size : Int) := by omega
      have hj1 : 2 * (k : Int) + 1 < (s.size : Int) := by omega
      have hj2 : 0 ≤ 2 * (k : Int) + 1 := by omega
      have hj3 : 0 ≤ 2 * (k : Int) := by omega
      have n0 : (2 * (k : Int)).toNat = 2 * k := by omega
      have n1 : (2 * (k : Int) + 1).toNat = 2 * k + 1 := by omega
      have e0 : IntKind.i64.wrap (2 * (k : Int)) = 2 * (k : Int) := IntWalk.i64_in _ (by omega)
      have e1 : IntKind.i64.wrap (2 * (k : Int) + 1) = 2 * (k : Int) + 1 := IntWalk.i64_in _ (by omega)
      go_wp2
      go_region
      all_goals go_wp2
      all_goals go_roundw
      case rel => 
        refine ⟨k + 1, by omega, by go_num, (hrw.out.set _ _).congr (fun j _ => ?_), (hbl.out.setCell (Nat.le_refl _) _).drew⟩
        refine rowOf_step p k _ HA.out _ ?_ j
        rw [or_join _ _ hb0 hb1]
      case measure => simp [intOf]; omega
    · have hk2 : k = c := by omega
      subst hk2
      have g := run_convert_bytes_arg (P := Try.prog) wr 31 5 Try.underlying31 Try.underlying5 w.heap.size 0 k k (p.map fun b => (b.toNat : Int)) (by rw [List.length_map, HPL.out]) (fun i hi => by
        rw [Nat.zero_add, hrw.out.cell hi]
        have := rowOf_full p i (by rw [HPL.out]; exact hi)
        rw [HPL.out] at this
        exact congrArg some this) 9 Try.underlying9
      rw [strOfNums_bytes] at g
      go_wp2
      go_ret
      exact ⟨rfl, hbl.out⟩
end Go.Proofs.Ytgeonbkoihegnaa

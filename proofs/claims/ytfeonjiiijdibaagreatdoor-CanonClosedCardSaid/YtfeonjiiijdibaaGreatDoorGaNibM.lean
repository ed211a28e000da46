/-
  Merged: NibWorks, NibMore, NibRef.
-/
import Derived.Test.YtfeonjiiijdibaaGreatDoorGaNib
namespace Go.Proofs.YtfeonjiiijdibaaGreatDoor
open Go.RowKit
theorem get_ex (w : World) : Calls Tryz.prog 126 #[.string (Nib.bs [49, 35])] w fun e w' => e = .returned (.tuple #[.string (Nib.bs [1, 2, 3]), .bool true, .bool true]) ∧ Below w.heap.size w w' := by
  refine (get_some (Nib.bs [49, 35]) w (by rw [Nib.bs_size]; simp) 3 1 [2, 3] (by rw [Nib.bs_data]; decide)).mono ?_
  rintro e w' ⟨rfl, hb⟩
  refine ⟨?_, hb⟩
  rw [Nib.bs_data, show Nib.get [49, 35] = some ([1, 2, 3], true) by decide]
  rfl
theorem put_ex (w : World) : Calls Tryz.prog 156 #[.string (Nib.bs [1, 2, 3]), .bool true] w fun e w' => e = .returned (.tuple #[.string (Nib.bs [49, 35]), .bool true]) ∧ Below w.heap.size w w' := by
  refine (put_yes (Nib.bs [1, 2, 3]) true w (by rw [Nib.bs_size]; simp) (by rw [Nib.bs_data]; decide)).mono ?_
  rintro e w' ⟨rfl, hb⟩
  refine ⟨?_, hb⟩
  rw [Nib.bs_data, show Nib.put [1, 2, 3] true = [49, 35] by decide]
theorem put_ex0 (w : World) : Calls Tryz.prog 156 #[.string ⟨#[]⟩, .bool false] w fun e w' => e = .returned (.tuple #[.string (Nib.bs [0]), .bool true]) ∧ Below w.heap.size w w' := by
  refine (put_yes (Nib.bs []) false w (by rw [Nib.bs_size]; simp) (by rw [Nib.bs_data]; decide)).mono ?_
  rintro e w' ⟨rfl, hb⟩
  refine ⟨?_, hb⟩
  rw [Nib.bs_data, show Nib.put [] false = [0] by decide]
theorem path_ex (w : World) : Calls Tryz.prog 69 #[.string ⟨#[97, 122]⟩] w fun e w' => e = .returned (.string (Nib.bs [6, 1, 7, 10])) ∧ Below w.heap.size w w' := by
  refine (path_any (Nib.bs [97, 122]) w (by rw [Nib.bs_size]; simp)).mono ?_
  rintro e w' ⟨rfl, hb⟩
  refine ⟨?_, hb⟩
  rw [Nib.bs_data, show Nib.path [97, 122] = [6, 1, 7, 10] by decide]
theorem valid_ex (w : World) : Calls Tryz.prog 131 #[.string (Nib.bs [1, 2, 3])] w fun e w' => e = .returned (.bool true) ∧ w = w' := by
  refine (valid_any (Nib.bs [1, 2, 3]) w (by rw [Nib.bs_size]; simp)).mono ?_
  rintro e w' ⟨rfl, rfl⟩
  exact ⟨rfl, rfl⟩
theorem valid_ex0 (w : World) : Calls Tryz.prog 131 #[.string ⟨#[97]⟩] w fun e w' => e = .returned (.bool false) ∧ w = w' := by
  refine (valid_any (Nib.bs [97]) w (by rw [Nib.bs_size]; simp)).mono ?_
  rintro e w' ⟨rfl, rfl⟩
  exact ⟨rfl, rfl⟩
theorem common_ex (w : World) : Calls Tryz.prog 101 #[.string ⟨#[97, 98, 99]⟩, .string ⟨#[97, 98, 100]⟩] w fun e w' => e = .returned (.int .i64 2) ∧ Below w.heap.size w w' := by
  refine (common_any (Nib.bs [97, 98, 99]) (Nib.bs [97, 98, 100]) w (by rw [Nib.bs_size]; simp) (by rw [Nib.bs_size]; simp)).mono ?_
  rintro e w' ⟨rfl, hb⟩
  exact ⟨rfl, hb⟩
end Go.Proofs.YtfeonjiiijdibaaGreatDoor
namespace Go.Proofs.YtfeonjiiijdibaaGreatDoor
open Go.RowKit
theorem joined (a b : ByteArray) : (Nib.bs (Nib.path a.data.toList) ++ Nib.bs (Nib.path b.data.toList)) = Nib.bs (Nib.path (a ++ b).data.toList) := by
  rw [Nib.data_append, Nib.path_append, Nib.bs_append]
theorem path_join (a b : ByteArray) (w : World) (ha : a.size ≤ 200) (hb : b.size ≤ 200) :
    Calls Tryz.prog 69 #[.string (a ++ b)] w fun e w' => e = .returned (.string (Nib.bs (Nib.path a.data.toList) ++ Nib.bs (Nib.path b.data.toList))) ∧ Below w.heap.size w w' := by
  rw [joined]
  exact path_any (a ++ b) w (by rw [ByteArray.size_append]; omega)
theorem common_join (a b : ByteArray) (w : World) (ha : a.size ≤ 200) (hb : b.size ≤ 200) :
    Calls Tryz.prog 101 #[.string (a ++ b), .string a] w fun e w' => e = .returned (.int .i64 (a.size : Int)) ∧ Below w.heap.size w w' := by
  refine (common_any (a ++ b) a w (by rw [ByteArray.size_append]; omega) (by omega)).mono ?_
  rintro e w' ⟨rfl, h⟩
  refine ⟨?_, h⟩
  rw [Nib.data_append, Nib.common_pre, Nib.len_of]
theorem common_same (a : ByteArray) (w : World) (ha : a.size ≤ 200) :
    Calls Tryz.prog 101 #[.string a, .string a] w fun e w' => e = .returned (.int .i64 (a.size : Int)) ∧ ∃ q, w' = w.drewN q := by
  refine (common_quiet a a w (by omega) (by omega)).mono ?_
  rintro e w' ⟨rfl, h⟩
  refine ⟨?_, h⟩
  rw [Nib.common_self, Nib.len_of]
theorem common_turn (a b : ByteArray) (n : Nat) (h : Nib.common b.data.toList a.data.toList = n) (w : World) (ha : a.size ≤ 200) (hb : b.size ≤ 200) :
    Calls Tryz.prog 101 #[.string b, .string a] w fun e w' => e = .returned (.int .i64 (n : Int)) ∧ ∃ q, w' = w.drewN q := by
  refine (common_quiet b a w (by omega) (by omega)).mono ?_
  rintro e w' ⟨rfl, h'⟩
  refine ⟨?_, h'⟩
  rw [h]
end Go.Proofs.YtfeonjiiijdibaaGreatDoor
namespace Go.Proofs.YtfeonjiiijdibaaGreatDoor
open Go.RowKit
theorem take_next (s : ByteArray) (k : Nat) (h : k < s.size) : s.data.toList.take (k + 1) = s.data.toList.take k ++ [s[k]] := by
  rw [List.take_succ_eq_append_getElem (by simpa using h), byte_get s k h]
/-- Two bytes in a row, made a string. -/
theorem conv_two (x y : Int) (u v : UInt8) (hx : x = (u.toNat : Int)) (hy : y = (v.toNat : Int)) (W : World) (b : Nat) (h0 : W.cell? ⟨b, 0, none⟩ = some (.int .u8 x)) (h1 : W.cell? ⟨b, 1, none⟩ = some (.int .u8 y)) :
    (convert 63 9 (.slice (some ⟨b, 0, none⟩) 2 2)).run Tryz.prog W = .ok (.string (Nib.bs [u, v])) W := by
  subst hx hy
  have g := run_convert_bytes_arg (P := Tryz.prog) W 63 5 Tryz.underlying63 Tryz.underlying5 b 0 2 2 ([u, v].map fun b => (b.toNat : Int)) rfl (fun i hi => by
    rcases (show i = 0 ∨ i = 1 by omega) with rfl | rfl
    · simpa using h0
    · simpa using h1) 9 Tryz.underlying9
  rw [g, strOfNums_bytes]
theorem conv_oneN (x : Int) (u : UInt8) (hx : x = (u.toNat : Int)) (W : World) (b : Nat) (h0 : W.cell? ⟨b, 0, none⟩ = some (.int .u8 x)) :
    (convert 63 9 (.slice (some ⟨b, 0, none⟩) 1 1)).run Tryz.prog W = .ok (.string (Nib.bs [u])) W := by
  subst hx
  have g := run_convert_bytes_arg (P := Tryz.prog) W 63 5 Tryz.underlying63 Tryz.underlying5 b 0 1 1 ([u].map fun b => (b.toNat : Int)) rfl (fun i hi => by
    obtain rfl : i = 0 := by omega
    simpa using h0) 9 Tryz.underlying9
  rw [g, strOfNums_bytes]
set_option maxHeartbeats 400000 in
/-- The document's Path. -/
theorem rpath_any (s : ByteArray) (w : World) (hs : s.size ≤ 1048576) :
    Calls Tryz.prog 76 #[.string s] w fun e w' => e = .returned (.string (Nib.bs (Nib.path s.data.toList))) ∧ Below w.heap.size w w' := by
  obtain ⟨p, hp⟩ : ∃ p, p = Nib.path s.data.toList := ⟨_, rfl⟩
  rw [← hp]
  have HP := Lib.hid hp
  clear hp
  go_enter Tryz.func76, Tryz.ntmps76
  go_wp2
  go_loopw [3, 4] (fun vo vi wr => ∃ (k : Nat) (o : ByteArray), k ≤ s.size ∧ vi = .int .i64 k ∧ vo = .string o ∧ o.size ≤ 2 * s.size ∧ Hid (o = Nib.bs (Nib.path (s.data.toList.take k))) ∧ Hid (Bl w.heap.size w wr)) (fun _ vi _ => s.size - (intOf vi).toNat)
  case atStart => exact ⟨0, Nib.bs [], Nat.zero_le _, rfl, rfl, by rw [Nib.bs_size]; simp, rfl, Bl.start w⟩
  case round =>
    obtain ⟨k, o, hk, rfl, rfl, hos, HO, hbl⟩ := hrel
    by_cases hlt : k < s.size
    · have h256 := s[k].toNat_lt
      have c2 := conv_two ((s[k].toNat : Int) / 16) ((s[k].toNat : Int) % 16) (s[k] / 16) (s[k] % 16) (by simp) (by simp)
      have hz : (Nib.bs [s[k] / 16, s[k] % 16]).size ≤ 2 := by rw [Nib.bs_size]; simp
      have HT : Hid (s.data.toList.take (k + 1) = s.data.toList.take k ++ [s[k]]) := take_next s k hlt
      go_wp2
      go_region
      all_goals go_wp2
      all_goals go_roundw
      case rel =>
        have e : o ++ Nib.bs [s[k] / 16, s[k] % 16] = Nib.bs (Nib.path (s.data.toList.take (k + 1))) := by
          rw [HO.out, HT.out, Nib.path_append, Nib.bs_append]; rfl
        refine ⟨k + 1, _, by omega, by go_num, rfl, ?_, e, (hbl.out.alloc _).drew⟩
        rw [e, Nib.bs_size, Nib.path_length, List.length_take]
        omega
      case measure => simp [intOf]; omega
    · have hk2 : k = s.size := by omega
      subst hk2
      go_wp2
      go_ret
      refine ⟨ret_string ?_, hbl.out.1⟩
      rw [HO.out, HP.out, List.take_of_length_le (by simp)]
set_option maxHeartbeats 400000 in
/-- The document's Valid. -/
theorem rvalid_any (s : ByteArray) (w : World) (hs : s.size ≤ 1048576) :
    Calls Tryz.prog 158 #[.string s] w fun e w' => e = .returned (.bool (Nib.valid s.data.toList)) ∧ w = w' := by
  obtain ⟨r, hr⟩ : ∃ r, r = Nib.valid s.data.toList := ⟨_, rfl⟩
  rw [← hr]
  have HR := Lib.hid hr
  clear hr
  go_enter Tryz.func158, Tryz.ntmps158
  go_wp2
  go_loop [3] (fun vi => ∃ k : Nat, k ≤ s.size ∧ vi = .int .i64 k ∧ Hid (Nib.valid (s.data.toList.take k) = true)) (fun vi => s.size - (intOf vi).toNat)
  case atStart => exact ⟨0, Nat.zero_le _, rfl, rfl⟩
  case round =>
    obtain ⟨k, hk, rfl, hv⟩ := hrel
    by_cases hlt : k < s.size
    · have HT : Hid (s.data.toList.take (k + 1) = s.data.toList.take k ++ [s[k]]) := take_next s k hlt
      by_cases hb : (15 : Int) < (s[k].toNat : Int)
      · have hf : r = false := by
          rw [HR.out, ← List.take_append_drop (k + 1) s.data.toList, Nib.valid_append, HT.out, Nib.valid_append]
          have : Nib.valid [s[k]] = false := by
            simp [Nib.valid, UInt8.lt_iff_toNat_lt]; omega
          rw [this]
          simp
        have HF := Lib.hid hf
        clear hf
        go_wp2
        go_ret
        exact ⟨by rw [HF.out]; rfl, rfl⟩
      · go_wp2
        go_round
        case rel =>
          have hnew : Nib.valid (s.data.toList.take (k + 1)) = true := by
            rw [HT.out, Nib.valid_append, hv.out]
            have : Nib.valid [s[k]] = true := by
              simp [Nib.valid, UInt8.le_iff_toNat_le]; omega
            rw [this]; rfl
          exact ⟨k + 1, by omega, by go_num, hnew⟩
        case measure => simp [intOf]; omega
    · have hk2 : k = s.size := by omega
      subst hk2
      go_wp2
      go_ret
      have := hv.out
      rw [List.take_of_length_le (by simp)] at this
      exact ⟨by rw [HR.out, this]; rfl, rfl⟩
theorem take_two (s : ByteArray) (k : Nat) (h : 2 * k + 1 < s.size) : s.data.toList.take (2 * (k + 1)) = s.data.toList.take (2 * k) ++ [s[2 * k], s[2 * k + 1]] := by
  rw [show 2 * (k + 1) = (2 * k + 1) + 1 by omega, take_next s (2 * k + 1) h, take_next s (2 * k) (by omega)]
  simp
theorem pack_two (l : List UInt8) (x y : UInt8) (h : l.length % 2 = 0) : Nib.pack (l ++ [x, y]) = Nib.pack l ++ [x * 16 + y] := by
  fun_induction Nib.pack l with
  | case1 a b r ih =>
    have := ih (by simp at h; omega)
    simp [Nib.pack, this]
  | case2 l hl =>
    match l, hl with
    | [], _ => rfl
    | [a], _ => simp at h
    | a :: b :: r, hl => exact absurd rfl (hl a b r)
set_option maxHeartbeats 400000 in
/-- The document's Key of a path. -/
theorem rkey_yes (s : ByteArray) (w : World) (hs : s.size ≤ 1048576) (he : s.size % 2 = 0) (hv : Nib.valid s.data.toList = true) :
    Calls Tryz.prog 161 #[.string s] w fun e w' => e = .returned (.tuple #[.string (Nib.bs (Nib.pack s.data.toList)), .bool true]) ∧ Below w.heap.size w w' := by
  have HV : Hid (Nib.valid s.data.toList = true) := hv
  have h1 : ((s.size : Int) % 2 == 1) = false := by simp; omega
  obtain ⟨c, hc⟩ : ∃ c, s.size = 2 * c := ⟨s.size / 2, by omega⟩
  have hc1 : 2 * c ≤ s.size := by omega
  have hc2 : s.size ≤ 2 * c := by omega
  clear hv he hc
  go_enter Tryz.func161, Tryz.ntmps161
  go_wp2_with fail
  refine (rvalid_any s _ hs).mono ?_
  rintro e w' ⟨rfl, rfl⟩
  rw [HV.out]
  go_wp2_with fail
  go_loopw [4, 5] (fun vo vi wr => ∃ (k : Nat) (o : ByteArray), k ≤ c ∧ vi = .int .i64 ((2 * k : Nat) : Int) ∧ vo = .string o ∧ o.size ≤ s.size ∧ Hid (o = Nib.bs (Nib.pack (s.data.toList.take (2 * k)))) ∧ Hid (Bl w.heap.size w wr)) (fun _ vi _ => s.size - (intOf vi).toNat)
  case atStart => exact ⟨0, Nib.bs [], Nat.zero_le _, rfl, rfl, by rw [Nib.bs_size]; simp, rfl, Bl.start w⟩
  case round =>
    obtain ⟨k, o, hk, rfl, rfl, hos, HO, hbl⟩ := hrel
    by_cases hlt : k < c
    · have hi0 : 2 * k < s.size := by omega
      have hi1 : 2 * k + 1 < s.size := by omega
      have hb0 : ((s[2 * k]).toNat : Int) ≤ 15 := by
        have := List.all_eq_true.1 HV.out (s[2 * k]) (by rw [← byte_get s _ hi0]; exact List.getElem_mem _)
        simp [UInt8.le_iff_toNat_le] at this; omega
      have hb1 : ((s[2 * k + 1]).toNat : Int) ≤ 15 := by
        have := List.all_eq_true.1 HV.out (s[2 * k + 1]) (by rw [← byte_get s _ hi1]; exact List.getElem_mem _)
        simp [UInt8.le_iff_toNat_le] at this; omega
      have c1 := conv_oneN ((s[2 * k].toNat : Int) * 16 + (s[2 * k + 1].toNat : Int)) (s[2 * k] * 16 + s[2 * k + 1]) (by rw [UInt8.toNat_add, UInt8.toNat_mul]; simp; omega)
      have hz : (Nib.bs [s[2 * k] * 16 + s[2 * k + 1]]).size ≤ 1 := by rw [Nib.bs_size]; simp
      have hj0 : 2 * (k : Int) < (s.size : Int) := by omega
      have hj1 : 2 * (k : Int) + 1 < (s.size : Int) := by omega
      have hj2 : 0 ≤ 2 * (k : Int) + 1 := by omega
      have hj3 : 0 ≤ 2 * (k : Int) := by omega
      have n0 : (2 * (k : Int)).toNat = 2 * k := by omega
      have n1 : (2 * (k : Int) + 1).toNat = 2 * k + 1 := by omega
      have e0 : IntKind.i64.wrap (2 * (k : Int)) = 2 * (k : Int) := IntWalk.i64_in _ (by omega)
      have e1 : IntKind.i64.wrap (2 * (k : Int) + 1) = 2 * (k : Int) + 1 := IntWalk.i64_in _ (by omega)
      have HT : Hid (s.data.toList.take (2 * (k + 1)) = s.data.toList.take (2 * k) ++ [s[2 * k], s[2 * k + 1]]) := take_two s k hi1
      go_wp2
      go_region
      all_goals go_wp2
      all_goals go_roundw
      case rel =>
        have e : o ++ Nib.bs [s[2 * k] * 16 + s[2 * k + 1]] = Nib.bs (Nib.pack (s.data.toList.take (2 * (k + 1)))) := by
          rw [HO.out, HT.out, pack_two _ _ _ (by rw [List.length_take, Nib.len_of]; omega), Nib.bs_append]
        refine ⟨k + 1, _, by omega, by go_num, rfl, ?_, e, (hbl.out.alloc _).drew⟩
        rw [e, Nib.bs_size, Nib.pack_length, List.length_take]
        omega
      case measure => simp [intOf]; omega
    · have hk2 : k = c := by omega
      subst hk2
      go_wp2
      go_ret2
      refine ⟨?_, hbl.out.1⟩
      rw [HO.out, List.take_of_length_le (by simp; omega)]
      rfl
/-- The document's Key of what is no path. -/
theorem rkey_no (s : ByteArray) (w : World) (hs : s.size ≤ 1048576) (h : s.size % 2 ≠ 0 ∨ Nib.valid s.data.toList = false) :
    Calls Tryz.prog 161 #[.string s] w fun e w' => e = .returned (.tuple #[.string ⟨#[]⟩, .bool false]) ∧ Below w.heap.size w w' := by
  by_cases he : s.size % 2 = 0
  · have hv : Nib.valid s.data.toList = false := by rcases h with h | h; exact absurd he h; exact h
    have HV : Hid (Nib.valid s.data.toList = false) := hv
    have h1 : ((s.size : Int) % 2 == 1) = false := by simp; omega
    clear hv he h
    go_enter Tryz.func161, Tryz.ntmps161
    go_wp2_with fail
    refine (rvalid_any s _ hs).mono ?_
    rintro e w' ⟨rfl, rfl⟩
    rw [HV.out]
    go_wp2_with fail
    go_ret2
    exact ⟨rfl, Below.refl _ _⟩
  · have h1 : ((s.size : Int) % 2 == 1) = true := by simp; omega
    clear he h
    go_enter Tryz.func161, Tryz.ntmps161
    go_wp2_with fail
    go_ret2
    exact ⟨rfl, Below.refl _ _⟩
theorem u8_less (x y : UInt8) (b : Bool) : (decide (x / 16 < y / 16) || ((x / 16 == y / 16) && (decide (x % 16 < y % 16) || ((x % 16 == y % 16) && b)))) = (decide (x < y) || ((x == y) && b)) := by
  have hx := x.toNat_lt
  have hy := y.toNat_lt
  have e1 : (x / 16).toNat = x.toNat / 16 := by simp
  have e2 : (y / 16).toNat = y.toNat / 16 := by simp
  have e3 : (x % 16).toNat = x.toNat % 16 := by simp
  have e4 : (y % 16).toNat = y.toNat % 16 := by simp
  have q : ∀ a b : UInt8, (a == b) = decide (a.toNat = b.toNat) := fun a b => by
    by_cases h : a = b
    · simp [h]
    · have : a.toNat ≠ b.toNat := fun e => h (UInt8.toNat_inj.1 e)
      simp [h, this]
  rw [q, q, q]
  simp only [UInt8.lt_iff_toNat_lt, e1, e2, e3, e4]
  cases b
  · simp only [Bool.and_false, Bool.or_false]
    rw [Bool.eq_iff_iff]
    simp only [Bool.or_eq_true, Bool.and_eq_true, decide_eq_true_eq]
    omega
  · simp only [Bool.and_true]
    rw [Bool.eq_iff_iff]
    simp only [Bool.or_eq_true, Bool.and_eq_true, decide_eq_true_eq]
    omega
theorem path_less (a b : List UInt8) : Op.bytesLess (Nib.path a) (Nib.path b) = Op.bytesLess a b := by
  induction a generalizing b with
  | nil => cases b <;> rfl
  | cons x r ih =>
    cases b with
    | nil => rfl
    | cons y t =>
      simp only [Nib.path, Op.bytesLess]
      rw [ih t, u8_less]
theorem tail_data (a : ByteArray) (x : UInt8) (r : List UInt8) (h : a.data.toList = x :: r) : (a.extract 1 a.size).data.toList = r := by
  rw [Lib.extract_data, h, Lib.size_eq, h]; simp
theorem tail_size (a : ByteArray) (x : UInt8) (r : List UInt8) (h : a.data.toList = x :: r) : (a.extract 1 a.size).size = r.length := by
  rw [← Nib.len_of, tail_data a x r h]
set_option maxHeartbeats 1000000 in
/-- The document's Common. -/
theorem rcommon_any (n : Nat) : ∀ (a b : ByteArray) (w : World), a.size ≤ n → a.size ≤ 1048576 → b.size ≤ 1048576 →
    Calls Tryz.prog 110 #[.string a, .string b] w fun e w' => e = .returned (.int .i64 (Nib.common a.data.toList b.data.toList : Nat)) ∧ ∃ q, w' = w.drewN q := by
  induction n with
  | zero =>
    intro a b w hn ha hb
    have e0 : a.data.toList = [] := List.eq_nil_of_length_eq_zero (by rw [Nib.len_of]; omega)
    have t0 : a.toList.isEmpty = true := by rw [ByteArray.toList_eq, e0]; rfl
    have hr : Nib.common a.data.toList b.data.toList = 0 := by rw [e0]; cases b.data.toList <;> rfl
    rw [hr]
    clear hr e0
    go_enter Tryz.func110, Tryz.ntmps110
    go_wp2
    go_quiet (fail)
    go_wp2_with fail
    go_ret
    exact ⟨rfl, ⟨_, rfl⟩⟩
  | succ n ih =>
    intro a b w hn ha hb
    have IH := Lib.hid ih
    clear ih
    obtain ⟨r, hr⟩ : ∃ r, r = Nib.common a.data.toList b.data.toList := ⟨_, rfl⟩
    rw [← hr]
    cases hla : a.data.toList with
    | nil =>
      have t0 : a.toList.isEmpty = true := by rw [ByteArray.toList_eq, hla]; rfl
      have hr0 : r = 0 := by rw [hr, hla]; cases b.data.toList <;> rfl
      have HR := Lib.hid hr0
      clear hr hr0 hla
      go_enter Tryz.func110, Tryz.ntmps110
      go_wp2
      go_quiet (fail)
      go_wp2_with fail
      go_ret
      exact ⟨by rw [HR.out]; rfl, ⟨_, rfl⟩⟩
    | cons x ra =>
      have t0 : a.toList.isEmpty = false := by rw [ByteArray.toList_eq, hla]; rfl
      have s0 : 0 < a.size := by rw [← Nib.len_of, hla]; simp
      have z0 : (0 : Int) < (a.size : Int) := by omega
      cases hlb : b.data.toList with
      | nil =>
        have t1 : b.toList.isEmpty = true := by rw [ByteArray.toList_eq, hlb]; rfl
        have hr0 : r = 0 := by rw [hr, hla, hlb]; rfl
        have HR := Lib.hid hr0
        clear hr hr0 hla hlb
        go_enter Tryz.func110, Tryz.ntmps110
        go_wp2
        go_quiet (fail)
        go_wp2_with fail
        go_ret
        exact ⟨by rw [HR.out]; rfl, ⟨_, rfl⟩⟩
      | cons y rb =>
        have t1 : b.toList.isEmpty = false := by rw [ByteArray.toList_eq, hlb]; rfl
        have s1 : 0 < b.size := by rw [← Nib.len_of, hlb]; simp
        have z1 : (0 : Int) < (b.size : Int) := by omega
        have ea : a[0] = x := by rw [← byte_get a 0 s0]; simp only [hla]; rfl
        have eb : b[0] = y := by rw [← byte_get b 0 s1]; simp only [hlb]; rfl
        by_cases hxy : x = y
        · have t2 : ((x.toNat : Int) != (y.toNat : Int)) = false := by rw [hxy]; simp
          have hda := tail_data a x ra hla
          have hdb := tail_data b y rb hlb
          have hsa := tail_size a x ra hla
          have hsb := tail_size b y rb hlb
          have hr0 : r = Nib.common ra rb + 1 := by rw [hr, hla, hlb, Nib.common, if_pos hxy]
          have hz : ra.length + 1 = a.size := by rw [← Nib.len_of, hla]; simp
          have hzb : rb.length + 1 = b.size := by rw [← Nib.len_of, hlb]; simp
          have hcl : Nib.common ra rb ≤ ra.length := (Nib.common_le ra rb).1
          have hcm : Nib.common ra rb ≤ 1048576 := by omega
          have IC : Hid (∀ W : World, Calls Tryz.prog 110 #[.string (a.extract 1 a.size), .string (b.extract 1 b.size)] W fun e w' => e = .returned (.int .i64 (Nib.common ra rb : Nat)) ∧ ∃ q, w' = W.drewN q) := by
            intro W
            have := IH.out (a.extract 1 a.size) (b.extract 1 b.size) W (by rw [hsa]; omega) (by rw [hsa]; omega) (by rw [hsb]; omega)
            rwa [hda, hdb] at this
          have HR := Lib.hid hr0
          clear hr hr0 hla hlb hxy hda hdb hsa hsb hz hzb hcl
          generalize Nib.common ra rb = c at hcm IC HR
          go_enter Tryz.func110, Tryz.ntmps110
          go_wp2
          go_quiet (fail)
          go_wp2_with fail
          go_quiet ((go_at_call 110; exact quietly (IC.out _)))
          go_wp2_with fail
          go_ret
          exact ⟨ret_int (by rw [HR.out]; omega), ⟨_, World.drewN_drewN _ _ _⟩⟩
        · have t2 : ((x.toNat : Int) != (y.toNat : Int)) = true := by
            rw [bne_iff_ne]; intro e; exact hxy (UInt8.toNat_inj.1 (by exact_mod_cast e))
          have hr0 : r = 0 := by rw [hr, hla, hlb, Nib.common, if_neg hxy]
          have HR := Lib.hid hr0
          clear hr hr0 hla hlb hxy
          go_enter Tryz.func110, Tryz.ntmps110
          go_wp2
          go_quiet (fail)
          go_wp2_with fail
          go_ret
          exact ⟨by rw [HR.out]; rfl, ⟨_, rfl⟩⟩
end Go.Proofs.YtfeonjiiijdibaaGreatDoor

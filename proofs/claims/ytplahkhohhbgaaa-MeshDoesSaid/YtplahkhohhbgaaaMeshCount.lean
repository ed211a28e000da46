/-
  Package mesh: Count; the document's Count.
-/
import Derived.Test.YtplahkhohhbgaaaMeshAll
namespace Go.Proofs.Ytplahkhohhbgaaa
open Go.RowKit
set_option linter.unusedVariables false
set_option linter.unusedSimpArgs false
/-- How many are alike. -/
def cntOf (xs : List ByteArray) (s : ByteArray) : Nat := xs.countP (fun x => decide (x = s))
theorem cntOf_le (xs : List ByteArray) (s : ByteArray) : cntOf xs s ≤ xs.length := List.countP_le_length
theorem cntOf_append (xs ys : List ByteArray) (s : ByteArray) : cntOf (xs ++ ys) s = cntOf xs s + cntOf ys s := List.countP_append
theorem cntOf_one (x s : ByteArray) : cntOf [x] s = if x = s then 1 else 0 := by simp [cntOf, List.countP_cons]
theorem cntOf_step (xs : List ByteArray) (s : ByteArray) (k : Nat) (hk : k < xs.length) : cntOf (xs.take (k + 1)) s = cntOf (xs.take k) s + if xs[k] = s then 1 else 0 := by
  rw [List.take_succ_eq_append_getElem hk, cntOf_append, cntOf_one]
set_option maxHeartbeats 1000000 in
theorem mcount_any (B g : Nat) (r : Int) (v : Value) (xs : List ByteArray) (s : ByteArray) (w : World) (hM : Mh B g r v xs w) (hl : xs.length ≤ 1000) :
    Calls Try.prog 37 #[.pointer (some ⟨g, 0, none⟩), .string s] w fun e w' => e = .returned (.int .i64 (cntOf xs s : Int)) ∧ ∃ n, w' = w.drewN n := by
  obtain ⟨A, c, rfl, _, _, _⟩ := hM.shape
  have c1 : w.cell? ⟨g, 1, none⟩ = some (.slice A xs.length c) := by rw [hM.1.cell]; rfl
  have HM := Lib.hid hM
  clear hM
  go_enter Try.func37, Try.ntmps37
  go_wp2_with fail
  go_loopw [5, 12] (fun vn vi wr => ∃ k q m : Nat, vi = .int .i64 (k : Int) ∧ k ≤ xs.length ∧ vn = .int .i64 (m : Int) ∧ m ≤ k ∧ Hid (m = cntOf (xs.take k) s) ∧ wr = w.drewN q) (fun _ vi _ => xs.length - (intOf vi).toNat)
  case atStart => exact ⟨0, 0, 0, rfl, Nat.zero_le _, rfl, Nat.zero_le _, Lib.hid (by simp [cntOf]), rfl⟩
  case round =>
    obtain ⟨k, q, m, rfl, hk, rfl, hmk, hm, rfl⟩ := hrel
    by_cases hlt : k < xs.length
    · obtain ⟨X, hX⟩ : ∃ X, xs[k]? = some X := ⟨_, List.getElem?_eq_getElem hlt⟩
      obtain ⟨b, cap, he, ck⟩ := own_cell HM.out.2.1 hX
      cases he
      have i1 : (k : Int) < (xs.length : Int) := by omega
      have hXe : xs[k] = X := by rw [List.getElem?_eq_getElem hlt] at hX; exact Option.some.inj hX
      have hst := cntOf_step xs s k hlt
      rw [hXe, ← hm.out] at hst
      have HX := Lib.hid hX
      clear hX hXe
      have wm : IntKind.i64.wrap ((m : Int) + 1) = (m : Int) + 1 := IntWalk.i64_in _ (by omega)
      have wk : IntKind.i64.wrap ((k : Int) + 1) = (k : Int) + 1 := IntWalk.i64_in _ (by omega)
      by_cases he : X = s
      · have hbe : (X.toList == s.toList) = true := by rw [bytes_eq]; simp [he]
        rw [if_pos he] at hst
        have HE := Lib.hid he
        have HST := Lib.hid hst
        clear he hst
        go_wp2_with fail
        refine ⟨?rel, ?measure⟩
        case rel => exact ⟨k + 1, q, m + 1, by go_num, by omega, by go_num, by omega, Lib.hid HST.out.symm, rfl⟩
        case measure => simp [intOf]; omega
      · have hbe : (X.toList == s.toList) = false := by rw [bytes_eq]; simp [he]
        rw [if_neg he] at hst
        have HE := Lib.hid he
        have HST := Lib.hid hst
        clear he hst
        go_wp2_with fail
        refine ⟨?rel, ?measure⟩
        case rel => exact ⟨k + 1, q, m, by go_num, by omega, by go_num, by omega, Lib.hid HST.out.symm, rfl⟩
        case measure => simp [intOf]; omega
    · have hk' : k = xs.length := by omega
      have HK := Lib.hid hk'
      clear hk'
      go_wp2_with fail
      go_ret
      refine ⟨ret_int ?_, q, rfl⟩
      rw [hm.out, HK.out, List.take_length]
set_option maxHeartbeats 1000000 in
theorem rcount_any (A : Option Addr) (c : Nat) (xs : List ByteArray) (s : ByteArray) (w : World) (hS : Strs w A xs) (hl : xs.length ≤ 1000) :
    Calls Try.prog 38 #[.slice A xs.length c, .string s] w fun e w' => e = .returned (.int .i64 (cntOf xs s : Int)) ∧ ∃ n, w' = w.drewN n := by
  have HS := Lib.hid hS
  clear hS
  go_enter Try.func38, Try.ntmps38
  go_wp2_with fail
  go_loopw [5, 6] (fun vn vi wr => ∃ k q m : Nat, vi = .int .i64 (k : Int) ∧ k ≤ xs.length ∧ vn = .int .i64 (m : Int) ∧ m ≤ k ∧ Hid (m = cntOf (xs.take k) s) ∧ wr = w.drewN q) (fun _ vi _ => xs.length - (intOf vi).toNat)
  case atStart => exact ⟨0, 0, 0, rfl, Nat.zero_le _, rfl, Nat.zero_le _, Lib.hid (by simp [cntOf]), rfl⟩
  case round =>
    obtain ⟨k, q, m, rfl, hk, rfl, hmk, hm, rfl⟩ := hrel
    by_cases hlt : k < xs.length
    · obtain ⟨b, o, rfl, _, ck⟩ := HS.out.at_ k hlt
      obtain ⟨X, hX⟩ : ∃ X, X = xs[k] := ⟨_, rfl⟩
      rw [← hX] at ck
      have i1 : (k : Int) < (xs.length : Int) := by omega
      have hst := cntOf_step xs s k hlt
      rw [← hX, ← hm.out] at hst
      have HX := Lib.hid hX
      clear hX
      have wm : IntKind.i64.wrap ((m : Int) + 1) = (m : Int) + 1 := IntWalk.i64_in _ (by omega)
      have wk : IntKind.i64.wrap ((k : Int) + 1) = (k : Int) + 1 := IntWalk.i64_in _ (by omega)
      by_cases he : X = s
      · have hbe : (X.toList == s.toList) = true := by rw [bytes_eq]; simp [he]
        rw [if_pos he] at hst
        have HE := Lib.hid he
        have HST := Lib.hid hst
        clear he hst
        go_wp2_with fail
        refine ⟨?rel, ?measure⟩
        case rel => exact ⟨k + 1, q, m + 1, by go_num, by omega, by go_num, by omega, Lib.hid HST.out.symm, rfl⟩
        case measure => simp [intOf]; omega
      · have hbe : (X.toList == s.toList) = false := by rw [bytes_eq]; simp [he]
        rw [if_neg he] at hst
        have HE := Lib.hid he
        have HST := Lib.hid hst
        clear he hst
        go_wp2_with fail
        refine ⟨?rel, ?measure⟩
        case rel => exact ⟨k + 1, q, m, by go_num, by omega, by go_num, by omega, Lib.hid HST.out.symm, rfl⟩
        case measure => simp [intOf]; omega
    · have hk' : k = xs.length := by omega
      have HK := Lib.hid hk'
      clear hk'
      go_wp2_with fail
      go_ret
      refine ⟨ret_int ?_, q, rfl⟩
      rw [hm.out, HK.out, List.take_length]
end Go.Proofs.Ytplahkhohhbgaaa

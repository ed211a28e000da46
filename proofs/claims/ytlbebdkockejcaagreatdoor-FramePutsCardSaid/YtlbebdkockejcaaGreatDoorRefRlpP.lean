/-
  The document's numbers of rlp, plainly.
-/
import Derived.Test.YtlbebdkockejcaaGreatDoorGaRlp
namespace Go.Proofs.Rlp
set_option linter.unusedVariables false
set_option linter.unusedSimpArgs false
theorem beAt_next (n k : Nat) (hk : k < 7) : beAt (n / 256) (k + 1) = beAt n k := by
  unfold beAt
  rw [Nat.div_div_eq_div_mul, show 256 = 2 ^ 8 from rfl, ← Nat.pow_add, show 8 + (56 - 8 * (k + 1)) = 56 - 8 * k by omega]
theorem beAt_none (n : Nat) (hn : n < 18446744073709551616) : beAt (n / 256) 0 = 0 := by
  unfold beAt
  rw [Nat.div_div_eq_div_mul]
  have : n / (256 * 2 ^ (56 - 8 * 0)) = 0 := Nat.div_eq_of_lt (by simpa using hn)
  rw [this]
  rfl
theorem be8_split (n : Nat) : be8 n = (be8 n).take 7 ++ [UInt8.ofNat n] := by
  have h := be8_take n 7 (by decide)
  rw [List.take_of_length_le (by simp [be8])] at h
  rw [h]
  simp [beAt, be8]
theorem be8_next (n : Nat) (hn : n < 18446744073709551616) : be8 (n / 256) = 0 :: (be8 n).take 7 := by
  show [beAt (n / 256) 0, beAt (n / 256) 1, beAt (n / 256) 2, beAt (n / 256) 3, beAt (n / 256) 4, beAt (n / 256) 5, beAt (n / 256) 6, beAt (n / 256) 7] = 0 :: [beAt n 0, beAt n 1, beAt n 2, beAt n 3, beAt n 4, beAt n 5, beAt n 6]
  rw [beAt_none n hn, beAt_next n 0 (by decide), beAt_next n 1 (by decide), beAt_next n 2 (by decide), beAt_next n 3 (by decide), beAt_next n 4 (by decide), beAt_next n 5 (by decide), beAt_next n 6 (by decide)]
/-- A number's bytes, by the one below. -/
theorem digs_step {n : Nat} (hn : n < 18446744073709551616) (h0 : n ≠ 0) : digs n = digs (n / 256) ++ [UInt8.ofNat n] := by
  have h1 : digs (n / 256) = strip ((be8 n).take 7) := by
    unfold digs
    rw [be8_next n hn]
    rfl
  have e := be8_split n
  have hd : digs n = strip (be8 n) := rfl
  rw [h1, hd]
  generalize (be8 n).take 7 = T at *
  rw [e]
  refine strip_snoc T _ ?_
  by_cases hs : strip T = []
  · right
    intro hz
    have h2 : digs n = [] := by
      rw [hd, e, hz]
      exact strip_snoc_zero _ hs
    have := val_digs n hn
    rw [h2] at this
    exact h0 this.symm
  · exact .inl hs
theorem digs_zero : digs 0 = [] := by decide +kernel
end Go.Proofs.Rlp

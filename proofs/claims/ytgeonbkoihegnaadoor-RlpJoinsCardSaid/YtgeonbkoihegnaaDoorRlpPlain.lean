/-
  The functions of layer 2 (rlp) on lists of bytes, and what holds of them. No program is spoken of here.
-/
import Derived.Test.YtgeonbkoihegnaaDoorBase
namespace Go.Proofs.Rlp
/-- Byte k of a number, the highest first. -/
def beAt (n k : Nat) : UInt8 := UInt8.ofNat (n / 2 ^ (56 - 8 * k))
def be8 (n : Nat) : List UInt8 := (List.range 8).map (beAt n)
def strip (l : List UInt8) : List UInt8 := l.dropWhile (· == 0)
/-- A number's bytes. -/
def digs (n : Nat) : List UInt8 := strip (be8 n)
theorem strip_snoc_zero (l : List UInt8) (h : strip l = []) : strip (l ++ [0]) = [] := by
  unfold strip at *
  rw [List.dropWhile_append, h]
  rfl
theorem strip_snoc (l : List UInt8) (b : UInt8) (h : strip l ≠ [] ∨ b ≠ 0) : strip (l ++ [b]) = strip l ++ [b] := by
  unfold strip at *
  rw [List.dropWhile_append]
  cases hl : List.dropWhile (· == 0) l with
  | nil =>
    rcases h with h | h
    · exact absurd hl h
    · simp [h]
  | cons a r => rfl
theorem be8_take (n k : Nat) (hk : k < 8) : (be8 n).take (k + 1) = (be8 n).take k ++ [beAt n k] := by
  rw [List.take_succ_eq_append_getElem (by simpa [be8] using hk)]
  simp [be8]
theorem strip_length_le (l : List UInt8) : (strip l).length ≤ l.length := by
  induction l with
  | nil => exact Nat.le_refl _
  | cons b r ih =>
    unfold strip at *
    rw [List.dropWhile_cons]
    split
    · simp only [List.length_cons]; omega
    · exact Nat.le_refl _
theorem digs_length (n : Nat) : (digs n).length ≤ 8 := by
  have := strip_length_le (be8 n)
  have h8 : (be8 n).length = 8 := by simp [be8]
  unfold digs
  omega
/-- The number that bytes are. -/
def val (l : List UInt8) : Nat := l.foldl (fun n b => n * 256 + b.toNat) 0
theorem val_snoc (l : List UInt8) (b : UInt8) : val (l ++ [b]) = val l * 256 + b.toNat := by simp [val]
theorem foldl_zero (l : List UInt8) (a : Nat) : l.foldl (fun n b => n * 256 + b.toNat) a = a * 256 ^ l.length + val l := by
  unfold val
  induction l generalizing a with
  | nil => simp
  | cons b r ih =>
    simp only [List.foldl_cons, List.length_cons]
    rw [ih, ih (0 * 256 + b.toNat)]
    rw [Nat.add_mul, Nat.pow_succ, Nat.add_mul]
    simp
    rw [Nat.mul_assoc, Nat.mul_comm 256]
    omega
theorem val_cons (b : UInt8) (l : List UInt8) : val (b :: l) = b.toNat * 256 ^ l.length + val l := by
  show List.foldl _ _ _ = _
  rw [List.foldl_cons, foldl_zero]
  simp
theorem val_lt (l : List UInt8) : val l < 256 ^ l.length := by
  induction l with
  | nil => simp [val]
  | cons b r ih =>
    rw [val_cons, List.length_cons, Nat.pow_succ]
    have := b.toNat_lt
    have h2 : b.toNat * 256 ^ r.length ≤ 255 * 256 ^ r.length := Nat.mul_le_mul_right _ (by omega)
    omega
theorem val_strip (l : List UInt8) : val (strip l) = val l := by
  induction l with
  | nil => rfl
  | cons b r ih =>
    unfold strip at *
    rw [List.dropWhile_cons]
    split
    · next h =>
      have : b = 0 := by simpa using h
      rw [ih, val_cons, this]
      simp
    · rfl
theorem val_be8 (n : Nat) (hn : n < 18446744073709551616) : val (be8 n) = n := by
  have e : be8 n = [beAt n 0, beAt n 1, beAt n 2, beAt n 3, beAt n 4, beAt n 5, beAt n 6, beAt n 7] := rfl
  rw [e]
  simp only [val, List.foldl_cons, List.foldl_nil, beAt, UInt8.toNat_ofNat']
  omega
theorem val_digs (n : Nat) (hn : n < 18446744073709551616) : val (digs n) = n := by rw [digs, val_strip, val_be8 n hn]
/-- What stands ahead of n bytes. -/
def head (t n : Nat) : List UInt8 := if n ≤ 55 then [UInt8.ofNat (t + n)] else UInt8.ofNat (t + 55 + (digs n).length) :: digs n
theorem head_length (t n : Nat) : (head t n).length ≤ 9 := by
  have := digs_length n
  unfold head
  split
  · simp
  · simp only [List.length_cons]; omega
/-- Is it a byte that stands for itself? -/
def own : List UInt8 → Bool
  | [b] => b < 128
  | _ => false
def text (b : List UInt8) : List UInt8 := if own b then b else head 128 b.length ++ b
def num (n : Nat) : List UInt8 := text (digs n)
def list (l : List (List UInt8)) : List UInt8 := head 192 l.flatten.length ++ l.flatten
/-- Where the bytes of an item begin, how many they are; or where it is wrong. -/
def size (s : List UInt8) (told : Nat) : Except Nat (Nat × Nat) :=
  if told ≤ 55 then (if told + 1 ≤ s.length then .ok (1, told) else .error s.length)
  else
    let f := told - 54
    if f > 4 ∨ f > s.length ∨ s[1]? = some 0 then .error 1
    else
      let n := val ((s.take f).drop 1)
      if n ≤ 55 ∨ n > 1048576 then .error 1
      else if f + n ≤ s.length then .ok (f, n) else .error s.length
theorem size_ok {s : List UInt8} {told f n : Nat} (h : size s told = .ok (f, n)) : 1 ≤ f ∧ f + n ≤ s.length := by
  unfold size at h
  split at h
  · split at h
    · cases h; omega
    · cases h
  · simp only at h
    split at h
    · cases h
    · split at h
      · cases h
      · split at h
        · cases h; omega
        · cases h
theorem size_bad {s : List UInt8} {told e : Nat} (h : size s told = .error e) : e ≤ s.length + 1 := by
  unfold size at h
  split at h
  · split at h
    · cases h
    · cases h; omega
  · simp only at h
    split at h
    · cases h; omega
    · split at h
      · cases h; omega
      · split at h
        · cases h
        · cases h; omega
/-- The first item: whether it is a list, where its bytes begin, how many they are; or where it is wrong. -/
def first : List UInt8 → Except Nat (Bool × Nat × Nat)
  | [] => .error 0
  | c :: r =>
    if c < 128 then .ok (false, 0, 1)
    else if c < 192 then
      match size (c :: r) (c.toNat - 128) with
      | .error e => .error e
      | .ok (f, n) => if f = 1 ∧ n = 1 ∧ own (r.take 1) = true then .error 1 else .ok (false, f, n)
    else
      match size (c :: r) (c.toNat - 192) with
      | .error e => .error e
      | .ok (f, n) => .ok (true, f, n)
end Go.Proofs.Rlp

/-
  Merged: NibPlain, NibPath, NibPack, NibPut, NibGet.
-/
import Derived.Test.YtlbebdkockejcaaGreatDoorGaRlp
namespace Go.Proofs.Nib
/-- The nibbles of bytes. -/
def path : List UInt8 → List UInt8
  | [] => []
  | b :: r => (b / 16) :: (b % 16) :: path r
/-- Two nibbles a byte. -/
def pack : List UInt8 → List UInt8
  | a :: b :: r => (a * 16 + b) :: pack r
  | _ => []
def valid (l : List UInt8) : Bool := l.all (· ≤ 15)
def common : List UInt8 → List UInt8 → Nat
  | a :: r, b :: t => if a = b then common r t + 1 else 0
  | _, _ => 0
theorem path_length (l : List UInt8) : (path l).length = 2 * l.length := by
  induction l with
  | nil => rfl
  | cons b r ih => simp [path, ih]; omega
theorem path_at (l : List UInt8) (k : Nat) (h : k < l.length) : (path l)[2 * k]? = some (l[k] / 16) ∧ (path l)[2 * k + 1]? = some (l[k] % 16) := by
  induction l generalizing k with
  | nil => simp at h
  | cons b r ih =>
    cases k with
    | zero => simp [path]
    | succ k =>
      have := ih k (by simpa using h)
      simpa [path, show 2 * (k + 1) = 2 * k + 2 by omega] using this
theorem pack_length (l : List UInt8) : (pack l).length = l.length / 2 := by
  fun_induction pack l with
  | case1 a b r ih => simp [ih]; omega
  | case2 l h =>
    match l, h with
    | [], _ => rfl
    | [a], _ => simp
    | a :: b :: r, h => exact absurd rfl (h a b r)
theorem pack_at (l : List UInt8) (k : Nat) (h : 2 * k + 1 < l.length) : (pack l)[k]? = some (l[2 * k] * 16 + l[2 * k + 1]) := by
  induction k generalizing l with
  | zero =>
    match l, h with
    | a :: b :: r, _ => simp [pack]
  | succ k ih =>
    match l, h with
    | a :: b :: r, h =>
      have := ih r (by simp at h; omega)
      simpa [pack, show 2 * (k + 1) = 2 * k + 2 by omega, show 2 * (k + 1) + 1 = 2 * k + 1 + 2 by omega] using this
/-- What stands ahead of a path: its flag; behind that of an even path one nibble more. -/
def front (n : Nat) (leaf : Bool) : List UInt8 := if n % 2 = 1 then [(if leaf then 3 else 1)] else [(if leaf then 2 else 0), 0]
def put (l : List UInt8) (leaf : Bool) : List UInt8 := pack (front l.length leaf ++ l)
/-- The path, and whether it is of a leaf, of which bytes are the 'put'. -/
def getN : List UInt8 → Option (List UInt8 × Bool)
  | a :: r => if a = 3 then some (r, true) else if a = 1 then some (r, false) else
    match r with
    | b :: t => if a = 2 ∧ b = 0 then some (t, true) else if a = 0 ∧ b = 0 then some (t, false) else none
    | [] => none
  | [] => none
def get (l : List UInt8) : Option (List UInt8 × Bool) := getN (path l)
theorem valid_append (a b : List UInt8) : valid (a ++ b) = (valid a && valid b) := by simp [valid]
theorem path_append (a b : List UInt8) : path (a ++ b) = path a ++ path b := by
  induction a with
  | nil => rfl
  | cons x r ih => simp [path, ih]
theorem u8_div_le (b : UInt8) : b / 16 ≤ 15 := by
  rw [UInt8.le_iff_toNat_le]; simp; have := b.toNat_lt; omega
theorem u8_mod_le (b : UInt8) : b % 16 ≤ 15 := by
  rw [UInt8.le_iff_toNat_le]; simp; omega
theorem u8_join (b : UInt8) : b / 16 * 16 + b % 16 = b := by
  apply UInt8.toNat_inj.1
  simp; have := b.toNat_lt; omega
theorem valid_path (l : List UInt8) : valid (path l) = true := by
  induction l with
  | nil => rfl
  | cons b r ih => simp [path, valid, u8_div_le, u8_mod_le] at *; exact ih
theorem pack_path (l : List UInt8) : pack (path l) = l := by
  induction l with
  | nil => rfl
  | cons b r ih => simp [path, pack, u8_join, ih]
theorem valid_front (n : Nat) (leaf : Bool) : valid (front n leaf) = true := by
  unfold front
  split <;> cases leaf <;> decide
theorem front_length (n : Nat) (leaf : Bool) : (front n leaf).length = if n % 2 = 1 then 1 else 2 := by
  unfold front
  split <;> rfl
theorem put_length (l : List UInt8) (leaf : Bool) : (put l leaf).length = 1 + l.length / 2 := by
  unfold put
  rw [pack_length, List.length_append, front_length]
  split <;> omega
theorem path_inj {a b : List UInt8} (h : path a = path b) : a = b := by rw [← pack_path a, h, pack_path]
theorem common_le (a b : List UInt8) : common a b ≤ a.length ∧ common a b ≤ b.length := by
  induction a generalizing b with
  | nil => cases b <;> simp [common]
  | cons x r ih =>
    cases b with
    | nil => simp [common]
    | cons y t =>
      have := ih t
      simp only [common]
      split <;> simp <;> omega
theorem common_pre (a b : List UInt8) : common (a ++ b) a = a.length := by
  induction a with
  | nil => cases b <;> simp [common]
  | cons x r ih => simp [common, ih]
theorem common_self (a : List UInt8) : common a a = a.length := by
  have := common_pre a []
  simpa using this
theorem common_comm (a b : List UInt8) : common a b = common b a := by
  induction a generalizing b with
  | nil => cases b <;> simp [common]
  | cons x r ih =>
    cases b with
    | nil => simp [common]
    | cons y t => simp [common, ih t, eq_comm]
theorem common_take (a b : List UInt8) : a.take (common a b) = b.take (common a b) := by
  induction a generalizing b with
  | nil => cases b <;> simp [common]
  | cons x r ih =>
    cases b with
    | nil => simp [common]
    | cons y t =>
      simp only [common]
      split
      · next h => simp [h, ih t]
      · simp
theorem common_next (a b : List UInt8) (ha : common a b < a.length) (hb : common a b < b.length) : a[common a b] ≠ b[common a b] := by
  induction a generalizing b with
  | nil => simp at ha
  | cons x r ih =>
    cases b with
    | nil => simp at hb
    | cons y t =>
      by_cases h : x = y
      · subst h
        have e : common (x :: r) (x :: t) = common r t + 1 := by simp [common]
        simp only [e] at ha hb ⊢
        simpa using ih t (by simpa using ha) (by simpa using hb)
      · have e : common (x :: r) (y :: t) = 0 := by simp [common, h]
        simp only [e]
        simpa using h
/-- What 'common' is, by its three signs. -/
theorem common_is (a b : List UInt8) (n : Nat) (ha : n ≤ a.length) (hb : n ≤ b.length) (h : ∀ i (h1 : i < a.length) (h2 : i < b.length), i < n → a[i] = b[i]) (hn : n = a.length ∨ n = b.length ∨ ∃ (h1 : n < a.length) (h2 : n < b.length), a[n] ≠ b[n]) : common a b = n := by
  induction a generalizing b n with
  | nil => simp at ha; subst ha; cases b <;> simp [common]
  | cons x r ih =>
    cases b with
    | nil => simp at hb; subst hb; simp [common]
    | cons y t =>
      cases n with
      | zero =>
        rcases hn with hn | hn | ⟨h1, h2, hn⟩
        · simp at hn
        · simp at hn
        · simp at hn; simp [common, hn]
      | succ n =>
        have h0 := h 0 (by simp) (by simp) (by omega)
        simp at h0
        subst h0
        have := ih t n (by simpa using ha) (by simpa using hb) (fun i h1 h2 hi => by have := h (i + 1) (by simpa using h1) (by simpa using h2) (by omega); rwa [List.getElem_cons_succ, List.getElem_cons_succ] at this) (by
          rcases hn with hn | hn | ⟨h1, h2, hn⟩
          · left; simpa using hn
          · right; left; simpa using hn
          · right; right; exact ⟨by simpa using h1, by simpa using h2, by simpa using hn⟩)
        simp [common, this]
end Go.Proofs.Nib
namespace Go.Proofs.YtlbebdkockejcaaGreatDoor
open Go.RowKit
end Go.Proofs.YtlbebdkockejcaaGreatDoor
namespace Go.Proofs.YtlbebdkockejcaaGreatDoor
open Go.RowKit
theorem or_join (x y : UInt8) (hx : (x.toNat : Int) ≤ 15) (hy : (y.toNat : Int) ≤ 15) : bits BinOp.or IntKind.u8 ((x.toNat : Int) * 16) (y.toNat : Int) = ((x * 16 + y).toNat : Int) := by
  rw [bits_join .u8 8 (by decide) wraps_u8 4 _ _ (by omega) (by omega) (by omega) (by omega) (by omega) (by omega)]
  rw [UInt8.toNat_add, UInt8.toNat_mul]
  simp
  omega
end Go.Proofs.YtlbebdkockejcaaGreatDoor
namespace Go.Proofs.YtlbebdkockejcaaGreatDoor
open Go.RowKit
theorem two_is (n : Nat) (h : ¬ n % 2 = 1) : ((n : Int) % 2 == 1) = false := by simp; omega
theorem one_is (n : Nat) (h : n % 2 = 1) : ((n : Int) % 2 == 1) = true := by simp; omega
end Go.Proofs.YtlbebdkockejcaaGreatDoor
namespace Go.Proofs.YtlbebdkockejcaaGreatDoor
open Go.RowKit
/-- nibble.Get's three answers. -/
def getV : Option (List UInt8 × Bool) → Value
  | some (p, leaf) => .tuple #[.string (Nib.bs p), .bool leaf, .bool true]
  | none => .tuple #[.string ⟨#[]⟩, .bool false, .bool false]
theorem u8_ne (x : UInt8) (k : Nat) (hk : k < 256) (h : x ≠ UInt8.ofNat k) : ((x.toNat : Int) == (k : Int)) = false := by
  rw [beq_eq_false_iff_ne]
  intro e
  apply h
  apply UInt8.toNat_inj.1
  rw [UInt8.toNat_ofNat_of_lt' hk]
  exact_mod_cast e
theorem extract_bs (n : ByteArray) (l m : List UInt8) (k : Nat) (hn : n = Nib.bs (l ++ m)) (hk : k = l.length) : n.extract k n.size = Nib.bs m := by
  subst hn hk
  apply ByteArray.ext
  apply Array.toList_inj.1
  rw [Lib.extract_data, Nib.bs_data, Nib.bs_size, Nib.bs_data]
  simp
end Go.Proofs.YtlbebdkockejcaaGreatDoor

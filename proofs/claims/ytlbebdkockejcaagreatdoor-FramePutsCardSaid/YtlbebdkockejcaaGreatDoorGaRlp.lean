/-
  Merged: Core, Base, RlpPlain, RlpNum, RlpVal, RlpFirst, RlpFst.
-/
import Derived.Test.YtlbebdkockejcaaGreatDoorRows
import Derived.WalkKit
import Derived.RegionTactic
import Derived.Deep.OwnRows
import Derived.Deep.RegionWith
import Derived.Deep.QuietTactic
import Derived.BigQuiet
import Derived.WalkLawsBesides
import Derived.Laws.BytesArg
import Derived.Laws.CopyRow
import Derived.Laws.Tables
import Derived.Deep.MidRow
import Derived.Laws.BitsLemmas
import Derived.Lib.Hide
import Derived.Lib.Strings
import Derived.OwnWalk
import Derived.Handy
namespace Go.Proofs.Nib
/-- A list of bytes as a string. -/
def bs (l : List UInt8) : ByteArray := ⟨l.toArray⟩
theorem bs_data (l : List UInt8) : (bs l).data.toList = l := rfl
theorem bs_size (l : List UInt8) : (bs l).size = l.length := by simp [bs, ByteArray.size]
theorem bs_of (s : ByteArray) : bs s.data.toList = s := rfl
theorem len_of (s : ByteArray) : s.data.toList.length = s.size := by simp
theorem bs_append (a b : List UInt8) : bs (a ++ b) = bs a ++ bs b := by
  apply ByteArray.ext
  simp [bs]
theorem data_append (a b : ByteArray) : (a ++ b).data.toList = a.data.toList ++ b.data.toList := by simp
end Go.Proofs.Nib
namespace Go.Proofs.YtlbebdkockejcaaGreatDoor
open Go.RowKit
theorem ret_int {k : IntKind} {a b : Int} (h : a = b) : Ending.returned (.int k a) = .returned (.int k b) := by rw [h]
theorem ret_bool {a b : Bool} (h : a = b) : Ending.returned (.bool a) = .returned (.bool b) := by rw [h]
theorem ret_string {a b : ByteArray} (h : a = b) : Ending.returned (.string a) = .returned (.string b) := by rw [h]
/-- A call that only draws, behind draws: of one world. -/
theorem quietly {f : FuncId} {args : Array Value} {w : World} {a n : Nat} {v : Value} (h : Calls Tryz.prog f args (w.drewN (a + n)) fun e w' => e = .returned v ∧ ∃ q, w' = (w.drewN (a + n)).drewN q) :
    Calls Tryz.prog f args (w.drewN (a + n)) fun e w' => e = .returned v ∧ ∃ m, w' = w.drewN (a + m) := by
  refine h.mono ?_
  rintro e w' ⟨he, q, rfl⟩
  exact ⟨he, n + q, by rw [World.drewN_drewN, Nat.add_assoc]⟩
theorem quietly_same {f : FuncId} {args : Array Value} {w : World} {a n : Nat} {v : Value} (h : Calls Tryz.prog f args (w.drewN (a + n)) fun e w' => e = .returned v ∧ w.drewN (a + n) = w') :
    Calls Tryz.prog f args (w.drewN (a + n)) fun e w' => e = .returned v ∧ ∃ m, w' = w.drewN (a + m) := by
  refine h.mono ?_
  rintro e w' ⟨he, rfl⟩
  exact ⟨he, n, rfl⟩
/-- The same, behind none. -/
theorem quietly0 {f : FuncId} {args : Array Value} {w : World} {n : Nat} {v : Value} (h : Calls Tryz.prog f args (w.drewN n) fun e w' => e = .returned v ∧ ∃ q, w' = (w.drewN n).drewN q) :
    Calls Tryz.prog f args (w.drewN n) fun e w' => e = .returned v ∧ ∃ m, w' = w.drewN m := by
  refine h.mono ?_
  rintro e w' ⟨he, q, rfl⟩
  exact ⟨he, n + q, by rw [World.drewN_drewN]⟩
/-- A row's cells, written out. -/
theorem rowIs_arr {w : World} {b : Nat} {t : TypeId} {n : Nat} {f : Nat → Value} (h : w.rowIs b t n f) : w.heap[b]? = some (.cells ((List.range n).map f).toArray t (0, 0)) := by
  obtain ⟨c, hc, hs, hf⟩ := h
  rw [hc]
  congr 2
  apply Array.ext
  · simp [hs]
  · intro i h1 h2
    have := hf i (by omega)
    rw [Array.getElem?_eq_getElem h1] at this
    simpa using this
/-- A row, known whole. -/
theorem rowIs_of {w : World} {b : Nat} {t : TypeId} {n : Nat} {f : Nat → Value} (h : w.heap[b]? = some (.cells ((List.range n).map f).toArray t (0, 0))) : w.rowIs b t n f :=
  ⟨_, h, by simp, fun i hi => by simp [hi]⟩
theorem heap_setRow (w : World) (g : Nat) (c cells : Array Value) (t : TypeId) (fr : Nat × Nat) (hg : w.heap[g]? = some (.cells c t fr)) : (w.setRow g cells).heap[g]? = some (.cells cells t fr) := setRow_heap w g c cells t fr hg
/-- The cells of a block that was just made. -/
theorem cells_new (W : World) (t : TypeId) (cs : List Value) : ∀ j u, cs[j]? = some u → (W.alloc (.cells cs.toArray t)).cell? ((⟨W.heap.size, 0, none⟩ : Addr).add j) = some u := by
  intro j u hj
  have hlt : j < cs.length := by
    rcases Nat.lt_or_ge j cs.length with h | h
    · exact h
    · rw [List.getElem?_eq_none h] at hj; cases hj
  rw [Addr.add_mid, Nat.zero_add, World.cell?_alloc_new]
  simpa using hj
/-- Below B all is as it was, and B lies within the world. -/
def Bl (B : Nat) (a b : World) : Prop := Below B a b ∧ B ≤ b.heap.size
theorem Bl.start (w : World) : Bl w.heap.size w w := ⟨Below.refl _ _, Nat.le_refl _⟩
theorem Bl.alloc {B : Nat} {a b : World} (h : Bl B a b) (o : Obj) : Bl B a (b.alloc o) := ⟨h.1.alloc h.2 o, by have := h.2; simp; omega⟩
theorem Bl.call {B : Nat} {a b c : World} (h : Bl B a b) (k : Below b.heap.size b c) : Bl B a c := ⟨h.1.trans (k.mono h.2), Nat.le_trans h.2 k.size⟩
theorem Bl.setCell {B : Nat} {a b : World} (h : Bl B a b) {p : Addr} (hp : B ≤ p.block) (v : Value) : Bl B a (b.setCell p v) := ⟨h.1.setCell hp v, by have := h.2; simp; omega⟩
theorem Bl.setRow {B : Nat} {a b : World} (h : Bl B a b) {g : Nat} (hg : B ≤ g) (cs : Array Value) : Bl B a (b.setRow g cs) :=
  ⟨h.1.trans ⟨rfl, rfl, rfl, by simp, fun k hk => by simp only [World.setRow, Array.getElem?_modify]; rw [if_neg (by omega)]⟩, by have := h.2; simp; omega⟩
theorem Bl.drew {B : Nat} {a b : World} (h : Bl B a b) : Bl B a b.drew := ⟨h.1.drew, h.2⟩
theorem Bl.drewN {B : Nat} {a b : World} (h : Bl B a b) (n : Nat) : Bl B a (b.drewN n) := ⟨below_drewN h.1 n, h.2⟩
end Go.Proofs.YtlbebdkockejcaaGreatDoor
namespace Go.Proofs.YtlbebdkockejcaaGreatDoor
open Go.RowKit
theorem infoU8 : (Tryz.prog.info? 5).map (fun i => (i.zero, i.size, i.bytes)) = some (some (.int .u8 0), 1, 1) := by kernel_rfl
/-- The bytes that were made, as cells. -/
def rowOf (l : List UInt8) (k j : Nat) : Value := if j < k then .int .u8 ((l[j]?.getD 0).toNat : Int) else .int .u8 0
theorem rowOf_zero (l : List UInt8) (j : Nat) : (Value.int .u8 0) = rowOf l 0 j := by simp [rowOf]
theorem rowOf_step (l : List UInt8) (k : Nat) (b : UInt8) (hb : l[k]? = some b) (n : Int) (hn : n = (b.toNat : Int)) (j : Nat) : (if j = k then (Value.int .u8 n) else rowOf l k j) = rowOf l (k + 1) j := by
  unfold rowOf
  by_cases h : j = k
  · subst h; simp [hb, hn]
  · rw [if_neg h]
    by_cases h1 : j < k
    · rw [if_pos h1, if_pos (by omega)]
    · rw [if_neg h1, if_neg (by omega)]
theorem strOfNums_bytes (l : List UInt8) : strOfNums (l.map fun b => (b.toNat : Int)) = Nib.bs l := by
  unfold strOfNums Nib.bs
  congr 1
  rw [List.map_map]
  have : (fun b : UInt8 => UInt8.ofNat ((b.toNat : Int).toNat)) = id := by funext b; simp
  show (List.map (fun b : UInt8 => UInt8.ofNat ((b.toNat : Int).toNat)) l).toArray = _
  rw [this, List.map_id]
theorem rowOf_full (l : List UInt8) (i : Nat) (hi : i < l.length) : rowOf l l.length i = .int .u8 ((l.map fun b => (b.toNat : Int)).getD i 0) := by
  unfold rowOf
  rw [if_pos hi]
  simp [List.getD, hi]
theorem byte_get (s : ByteArray) (k : Nat) (h : k < s.size) : s.data.toList[k]'(by simpa using h) = s[k] := by simp; rfl
/-- A literal of bytes, made a string. -/
theorem conv_lit (W : World) (l : List UInt8) : (convert 55 9 (.slice (some ⟨W.heap.size, 0, none⟩) l.length l.length)).run Tryz.prog (W.alloc (.cells (l.map fun b => Value.int .u8 (b.toNat : Int)).toArray 5)) = .ok (.string (Nib.bs l)) (W.alloc (.cells (l.map fun b => Value.int .u8 (b.toNat : Int)).toArray 5)) := by
  have g := run_convert_bytes_arg (P := Tryz.prog) (W.alloc (.cells (l.map fun b => Value.int .u8 (b.toNat : Int)).toArray 5)) 55 5 Tryz.underlying55 Tryz.underlying5 W.heap.size 0 l.length l.length (l.map fun b => (b.toNat : Int)) (by simp) (fun i hi => by
    rw [Nat.zero_add]
    have := (World.rowIs_alloc W (l.map fun b => Value.int .u8 (b.toNat : Int)).toArray 5 (fun i => .int .u8 ((l.map fun b => (b.toNat : Int)).getD i 0)) (fun i hi => by
      have hi' : i < l.length := by simpa using hi
      simp [List.getD, hi'])).cell (i := i) (by simpa using hi)
    exact this) 9 Tryz.underlying9
  rw [g, strOfNums_bytes]
end Go.Proofs.YtlbebdkockejcaaGreatDoor
namespace Go.Proofs.Rlp
/-- Byte k of a number, the highest first. -/
def beAt (n k : Nat) : UInt8 := UInt8.ofNat (n / 2 ^ (56 - 8 * k))
def be8 (n : Nat) : List UInt8 := (List.range 8).map (beAt n)
def strip (l : List UInt8) : List UInt8 := l.dropWhile (· == 0)
/-- A number's bytes. -/
def digs (n : Nat) : List UInt8 := strip (be8 n)
theorem strip_snoc_zero (l : List UInt8) (h : strip l = []) : strip (l ++ [0]) = [] := by
  unfold strip at *
  rw [List.dropWhile_append, h]
  rfl
theorem strip_snoc (l : List UInt8) (b : UInt8) (h : strip l ≠ [] ∨ b ≠ 0) : strip (l ++ [b]) = strip l ++ [b] := by
  unfold strip at *
  rw [List.dropWhile_append]
  cases hl : List.dropWhile (· == 0) l with
  | nil =>
    rcases h with h | h
    · exact absurd hl h
    · simp [h]
  | cons a r => rfl
theorem be8_take (n k : Nat) (hk : k < 8) : (be8 n).take (k + 1) = (be8 n).take k ++ [beAt n k] := by
  rw [List.take_succ_eq_append_getElem (by simpa [be8] using hk)]
  simp [be8]
theorem strip_length_le (l : List UInt8) : (strip l).length ≤ l.length := by
  induction l with
  | nil => exact Nat.le_refl _
  | cons b r ih =>
    unfold strip at *
    rw [List.dropWhile_cons]
    split
    · simp only [List.length_cons]; omega
    · exact Nat.le_refl _
theorem digs_length (n : Nat) : (digs n).length ≤ 8 := by
  have := strip_length_le (be8 n)
  have h8 : (be8 n).length = 8 := by simp [be8]
  unfold digs
  omega
/-- The number that bytes are. -/
def val (l : List UInt8) : Nat := l.foldl (fun n b => n * 256 + b.toNat) 0
theorem val_snoc (l : List UInt8) (b : UInt8) : val (l ++ [b]) = val l * 256 + b.toNat := by simp [val]
theorem foldl_zero (l : List UInt8) (a : Nat) : l.foldl (fun n b => n * 256 + b.toNat) a = a * 256 ^ l.length + val l := by
  unfold val
  induction l generalizing a with
  | nil => simp
  | cons b r ih =>
    simp only [List.foldl_cons, List.length_cons]
    rw [ih, ih (0 * 256 + b.toNat)]
    rw [Nat.add_mul, Nat.pow_succ, Nat.add_mul]
    simp
    rw [Nat.mul_assoc, Nat.mul_comm 256]
    omega
theorem val_cons (b : UInt8) (l : List UInt8) : val (b :: l) = b.toNat * 256 ^ l.length + val l := by
  show List.foldl _ _ _ = _
  rw [List.foldl_cons, foldl_zero]
  simp
theorem val_lt (l : List UInt8) : val l < 256 ^ l.length := by
  induction l with
  | nil => simp [val]
  | cons b r ih =>
    rw [val_cons, List.length_cons, Nat.pow_succ]
    have := b.toNat_lt
    have h2 : b.toNat * 256 ^ r.length ≤ 255 * 256 ^ r.length := Nat.mul_le_mul_right _ (by omega)
    omega
theorem val_strip (l : List UInt8) : val (strip l) = val l := by
  induction l with
  | nil => rfl
  | cons b r ih =>
    unfold strip at *
    rw [List.dropWhile_cons]
    split
    · next h =>
      have : b = 0 := by simpa using h
      rw [ih, val_cons, this]
      simp
    · rfl
theorem val_be8 (n : Nat) (hn : n < 18446744073709551616) : val (be8 n) = n := by
  have e : be8 n = [beAt n 0, beAt n 1, beAt n 2, beAt n 3, beAt n 4, beAt n 5, beAt n 6, beAt n 7] := rfl
  rw [e]
  simp only [val, List.foldl_cons, List.foldl_nil, beAt, UInt8.toNat_ofNat']
  omega
theorem val_digs (n : Nat) (hn : n < 18446744073709551616) : val (digs n) = n := by rw [digs, val_strip, val_be8 n hn]
/-- What stands ahead of n bytes. -/
def head (t n : Nat) : List UInt8 := if n ≤ 55 then [UInt8.ofNat (t + n)] else UInt8.ofNat (t + 55 + (digs n).length) :: digs n
theorem head_length (t n : Nat) : (head t n).length ≤ 9 := by
  have := digs_length n
  unfold head
  split
  · simp
  · simp only [List.length_cons]; omega
/-- Is it a byte that stands for itself? -/
def own : List UInt8 → Bool
  | [b] => b < 128
  | _ => false
def text (b : List UInt8) : List UInt8 := if own b then b else head 128 b.length ++ b
def num (n : Nat) : List UInt8 := text (digs n)
def list (l : List (List UInt8)) : List UInt8 := head 192 l.flatten.length ++ l.flatten
/-- Where the bytes of an item begin, how many they are; or where it is wrong. -/
def size (s : List UInt8) (told : Nat) : Except Nat (Nat × Nat) :=
  if told ≤ 55 then (if told + 1 ≤ s.length then .ok (1, told) else .error s.length)
  else
    let f := told - 54
    if f > 4 ∨ f > s.length ∨ s[1]? = some 0 then .error 1
    else
      let n := val ((s.take f).drop 1)
      if n ≤ 55 ∨ n > 1048576 then .error 1
      else if f + n ≤ s.length then .ok (f, n) else .error s.length
theorem size_ok {s : List UInt8} {told f n : Nat} (h : size s told = .ok (f, n)) : 1 ≤ f ∧ f + n ≤ s.length := by
  unfold size at h
  split at h
  · split at h
    · cases h; omega
    · cases h
  · simp only at h
    split at h
    · cases h
    · split at h
      · cases h
      · split at h
        · cases h; omega
        · cases h
theorem size_bad {s : List UInt8} {told e : Nat} (h : size s told = .error e) : e ≤ s.length + 1 := by
  unfold size at h
  split at h
  · split at h
    · cases h
    · cases h; omega
  · simp only at h
    split at h
    · cases h; omega
    · split at h
      · cases h; omega
      · split at h
        · cases h
        · cases h; omega
/-- The first item: whether it is a list, where its bytes begin, how many they are; or where it is wrong. -/
def first : List UInt8 → Except Nat (Bool × Nat × Nat)
  | [] => .error 0
  | c :: r =>
    if c < 128 then .ok (false, 0, 1)
    else if c < 192 then
      match size (c :: r) (c.toNat - 128) with
      | .error e => .error e
      | .ok (f, n) => if f = 1 ∧ n = 1 ∧ own (r.take 1) = true then .error 1 else .ok (false, f, n)
    else
      match size (c :: r) (c.toNat - 192) with
      | .error e => .error e
      | .ok (f, n) => .ok (true, f, n)
end Go.Proofs.Rlp
namespace Go.Proofs.YtlbebdkockejcaaGreatDoor
open Go.RowKit
theorem shape_of {w : World} {B e : Nat} {v : Value} {n : Nat} {xs : List Value} (h : w.ownsRow B e 1 v n xs) : ∃ a c, v = .slice a n c ∧ (n = 0 ∨ ∃ g, a = some ⟨g, 0, none⟩) := by
  obtain ⟨h1, h2⟩ := h
  rcases h2 with ⟨rfl, rfl⟩ | ⟨g, cap, cur, rfl, _⟩
  · simp at h1
    subst h1
    exact ⟨none, 0, rfl, .inl rfl⟩
  · exact ⟨some ⟨g, 0, none⟩, cap, rfl, .inr ⟨g, rfl⟩⟩
theorem Bl.grownOwn {B : Nat} {a b c : World} (h : Bl B a b) {o : Option Nat} (k : b.grownBy c o) (hr : ∀ i, o = some i → B ≤ i) : Bl B a c := ⟨h.1.grown k h.2 hr, Nat.le_trans h.2 k.size⟩
/-- Bytes as cells. -/
def cellsOf (l : List UInt8) : List Value := l.map fun b => .int .u8 (b.toNat : Int)
theorem cellsOf_nil : cellsOf [] = [] := rfl
theorem cellsOf_snoc (l : List UInt8) (b : UInt8) (d : Int) (hd : d = (b.toNat : Int)) : cellsOf l ++ [.int .u8 d] = cellsOf (l ++ [b]) := by simp [cellsOf, hd]
theorem cellsOf_length (l : List UInt8) : (cellsOf l).length = l.length := by simp [cellsOf]
theorem conv_nil (w : World) : (convert 55 9 (.slice none 0 0)).run Tryz.prog w = .ok (.string (Nib.bs [])) w :=
  run_convert_bytes_nil w 55 5 Tryz.underlying55 Tryz.underlying5 0 0 9 Tryz.underlying9
/-- A row of bytes that the call made, as a string. -/
theorem conv_own {w : World} {B : Nat} {v : Value} {L : Nat} {l : List UInt8} (h : w.ownsRow B 5 1 v L (cellsOf l)) : (convert 55 9 v).run Tryz.prog w = .ok (.string (Nib.bs l)) w := by
  have hL : L = l.length := by have := h.1; rw [cellsOf_length] at this; omega
  obtain ⟨a, c, rfl, hs⟩ := shape_of h
  rcases hs with h0 | ⟨g, rfl⟩
  · have : l = [] := List.length_eq_zero_iff.1 (by omega)
    subst this
    obtain ⟨_, h2⟩ := h
    subst h0
    rcases h2 with ⟨e, _⟩ | ⟨g, cap, cur, e, _⟩
    · rw [e]
      exact conv_nil w
    · rw [e]
      exact run_convert_bytes_arg (P := Tryz.prog) w 55 5 Tryz.underlying55 Tryz.underlying5 g 0 0 cap [] rfl (fun i hi => by omega) 9 Tryz.underlying9
  · subst hL
    have g1 := run_convert_bytes_arg (P := Tryz.prog) w 55 5 Tryz.underlying55 Tryz.underlying5 g 0 l.length c (l.map fun b => (b.toNat : Int)) (by simp) (fun i hi => by
      have := h.cells (g := g) rfl i (.int .u8 ((l[i]).toNat : Int)) (by simp [cellsOf, hi])
      rw [Addr.add_mid] at this
      rw [this]
      simp [List.getD, hi]) 9 Tryz.underlying9
    rw [g1, strOfNums_bytes]
theorem byte_nat (n k : Nat) : (n : Int) / 2 ^ (56 - 8 * k) % 256 = ((Rlp.beAt n k).toNat : Int) := by
  have e2 : ((2 ^ (56 - 8 * k) : Nat) : Int) = 2 ^ (56 - 8 * k) := Int.natCast_pow _ _
  rw [Rlp.beAt, UInt8.toNat_ofNat', ← e2, ← Int.natCast_ediv, show (256 : Int) = ((256 : Nat) : Int) from rfl, ← Int.natCast_emod]
set_option maxRecDepth 100000 in
set_option maxHeartbeats 1000000 in
/-- rlp.digits. -/
theorem digits_any (n : Nat) (w : World) (hn : n < 18446744073709551616) :
    Calls Tryz.prog 81 #[.int .u64 (n : Int)] w fun e w' => e = .returned (.string (Nib.bs (Rlp.digs n))) ∧ Below w.heap.size w w' := by
  obtain ⟨d, hd⟩ : ∃ d, d = Rlp.digs n := ⟨_, rfl⟩
  rw [← hd]
  have HD := Lib.hid hd
  have HN := Lib.hid hn
  clear hd hn
  obtain ⟨i0, hi, hz0, hz1, hz2⟩ := info_parts infoU8
  obtain ⟨B, hB⟩ : ∃ B, B = w.heap.size := ⟨_, rfl⟩
  go_enter Tryz.func81, Tryz.ntmps81
  go_wp2_with fail
  have HBB := Lib.hid hB
  clear hB
  go_loopw [3, 4] (fun v3 v4 wr => ∃ (k L : Nat), k ≤ 8 ∧ L ≤ 8 ∧ v4 = .int .i64 (56 - 8 * (k : Int)) ∧ Hid (L = (Rlp.strip ((Rlp.be8 n).take k)).length) ∧ Hid (wr.ownsRow B 5 1 v3 L (cellsOf (Rlp.strip ((Rlp.be8 n).take k)))) ∧ Hid (Bl B w wr)) (fun _ v4 _ => (intOf v4 + 8).toNat)
  case atStart => exact ⟨0, 0, by omega, by omega, rfl, rfl, World.ownsRow_nil _ _ _ _, by rw [HBB.out]; exact Bl.start w⟩
  case round =>
    obtain ⟨k, L, hk, hL, rfl, HLL, OW, BW⟩ := hrel
    by_cases hlt : k < 8
    · obtain ⟨a, c, rfl, hsh⟩ := shape_of OW.out
      have hge : (0 : Int) ≤ 56 - 8 * (k : Int) := by omega
      obtain ⟨b, hb⟩ : ∃ b, b = Rlp.beAt n k := ⟨_, rfl⟩
      have HT : Hid ((Rlp.be8 n).take (k + 1) = (Rlp.be8 n).take k ++ [b]) := by
        have := Rlp.be8_take n k hlt
        rw [← hb] at this
        exact this
      have hbn := byte_nat n k
      rw [← hb] at hbn
      obtain ⟨d, hd⟩ : ∃ d : Int, d = (b.toNat : Int) := ⟨_, rfl⟩
      rw [← hd] at hbn
      have HD2 := Lib.hid hd
      have HB2 := Lib.hid hb
      clear hb hd
      by_cases hz : d = 0 ∧ L = 0
      · obtain ⟨hd0, hL0⟩ := hz
        subst hL0
        have hgt : (0 : Int) ≤ 56 - 8 * (k : Int) := by omega
        rw [hd0] at hbn
        have HD0 := Lib.hid hd0
        clear hd0
        go_wp2
        refine ⟨⟨k + 1, 0, by omega, by omega, by go_num, ?_, ?_, BW⟩, by simp [intOf]; omega⟩
        all_goals
          have e : Rlp.strip ((Rlp.be8 n).take k) = [] := List.length_eq_zero_iff.1 HLL.out.symm
          have hb0 : b = 0 := by
            have := HD2.out
            rw [HD0.out] at this
            exact UInt8.toNat_inj.1 (by have h0 : (0 : UInt8).toNat = 0 := rfl; omega)
          have e2 : Rlp.strip ((Rlp.be8 n).take (k + 1)) = [] := by rw [HT.out, hb0]; exact Rlp.strip_snoc_zero _ e
        · exact Lib.hid (by rw [e2]; rfl)
        · refine Lib.hid ?_
          rw [e2, ← e]
          exact OW.out
      · have hor : (d != 0) = true ∨ ((d != 0) = false ∧ (0 < L)) := by
          by_cases h : d = 0
          · exact .inr ⟨by simp [h], by omega⟩
          · exact .inl (by simpa using h)
        have HST : Hid (Rlp.strip ((Rlp.be8 n).take (k + 1)) = Rlp.strip ((Rlp.be8 n).take k) ++ [b]) := by
          refine Lib.hid ?_
          rw [HT.out]
          refine Rlp.strip_snoc _ _ ?_
          rcases hor with h | ⟨_, h⟩
          · refine .inr ?_
            rintro rfl
            rw [HD2.out] at h
            simp at h
          · refine .inl ?_
            intro h0
            rw [HLL.out, h0] at h
            simp at h
        have HL1 : Hid (L + 1 = (Rlp.strip ((Rlp.be8 n).take (k + 1))).length) := by
          refine Lib.hid ?_
          rw [HST.out, List.length_append, ← HLL.out]
          rfl
        have HL8 : L + 1 ≤ 8 := by
          rw [HL1.out]
          have := Rlp.strip_length_le ((Rlp.be8 n).take (k + 1))
          rw [List.length_take] at this
          omega
        have hmx : L + 1 ≤ maxLen := by simp [maxLen]; omega
        have hby : (L + 1) * 1 ≤ 140737488355328 := by omega
        have HMX := Lib.hid hmx
        have HBY := Lib.hid hby
        clear hz hmx hby
        have HONE : Hid (∀ u ∈ [Value.int .u8 d], u.oneCell' = true) := Lib.hid (by simp; rfl)
        rcases hor with h1 | ⟨h1, h2⟩
        all_goals
          go_wp2_with (at_builtin; refine wpList_append_own _ rfl _ _ 55 rfl B 5 i0 (.int .u8 0) 1 1 Tryz.underlying55 hi hz0 hz1 hz2 rfl (by decide) _ L (cellsOf (Rlp.strip ((Rlp.be8 n).take k))) rfl (OW.out.alloc _) ⟨wr.heap.size, 0, none⟩ 1 1 [.int .u8 d] rfl rfl (cells_new wr _ _) HONE.out HMX.out HBY.out (BW.out.alloc _).2 ?_; intro v' w1 own gr _)
          have own' := own
          rw [cellsOf_snoc _ _ d HD2.out, ← HST.out] at own'
          have BW1 := ((BW.out.alloc _).grownOwn gr (fun i hi => (OW.out.lt i hi).1))
          have OW1 := Lib.hid own'
          have BWH := Lib.hid BW1
          clear own own' gr BW1
          go_wp2
          refine ⟨⟨k + 1, L + 1, by omega, by omega, by go_num, HL1, OW1, BWH⟩, by simp [intOf]; omega⟩
    · have hk8 : k = 8 := by omega
      subst hk8
      have e8 : (Rlp.be8 n).take 8 = Rlp.be8 n := List.take_of_length_le (by simp [Rlp.be8])
      have hcv := conv_own OW.out
      rw [e8, show Rlp.strip (Rlp.be8 n) = d from HD.out.symm] at hcv
      go_wp2
      go_ret
      exact ⟨rfl, by rw [← HBB.out]; exact BW.out.1⟩
end Go.Proofs.YtlbebdkockejcaaGreatDoor
namespace Go.Proofs.YtlbebdkockejcaaGreatDoor
open Go.RowKit
set_option maxRecDepth 100000 in
set_option maxHeartbeats 1000000 in
/-- rlp.value. -/
theorem value_any (b : ByteArray) (w : World) (hb : b.size ≤ 8) :
    Calls Tryz.prog 100 #[.string b] w fun e w' => e = .returned (.int .u64 (Rlp.val b.data.toList : Nat)) ∧ w = w' := by
  go_enter Tryz.func100, Tryz.ntmps100
  go_wp2_with fail
  go_loopw [3, 7] (fun v3 v7 wr => ∃ (k : Nat), k ≤ b.size ∧ v7 = .int .i64 (k : Int) ∧ v3 = .int .u64 ((Rlp.val (b.data.toList.take k) : Nat) : Int) ∧ wr = w) (fun _ v7 _ => b.size - (intOf v7).toNat)
  case atStart => exact ⟨0, Nat.zero_le _, rfl, rfl, rfl⟩
  case round =>
    obtain ⟨k, hk, rfl, rfl, rfl⟩ := hrel
    obtain ⟨n, hn⟩ : ∃ n, n = Rlp.val (b.data.toList.take k) := ⟨_, rfl⟩
    have HN : Hid (n = Rlp.val (b.data.toList.take k)) := hn
    rw [← hn]
    clear hn
    by_cases hlt : k < b.size
    · have HSN : Hid (b.data.toList.take (k + 1) = b.data.toList.take k ++ [b[k]]) := by
        refine Lib.hid ?_
        rw [List.take_succ_eq_append_getElem (by simpa using hlt), byte_get]
      go_wp2_with fail
      refine ⟨⟨k + 1, by omega, by go_num, ?_, trivial⟩, by simp [intOf]; omega⟩
      have hl := Rlp.val_lt (b.data.toList.take k)
      rw [← HN.out] at hl
      have hp : 256 ^ (List.take k b.data.toList).length ≤ 256 ^ 7 := Nat.pow_le_pow_right (by decide) (by simp; omega)
      have hb := b[k].toNat_lt
      rw [HSN.out, Rlp.val_snoc, ← HN.out, IntWalk.u64_in _ (by omega), IntWalk.u64_in _ (by omega), show ((n : Int) * 256) = (n : Int) * 2 ^ 8 from rfl,
        bits_join .u64 64 (by decide) (fun m h0 h1 => IntWalk.u64_in m (by omega)) 8 _ _ (by omega) (by omega) (by omega) (by omega) (by omega) (by omega)]
      congr 1
    · have hk2 : k = b.size := by omega
      subst hk2
      have HE : n = Rlp.val b.data.toList := by rw [HN.out, List.take_of_length_le (by simp)]
      go_wp2_with fail
      go_ret
      exact ⟨by rw [HE]; rfl, rfl⟩
/-- A string of one byte, made of a literal. -/
theorem conv_one (W : World) (d : Int) (b : UInt8) (hd : d = (b.toNat : Int)) : (convert 55 9 (.slice (some ⟨W.heap.size, 0, none⟩) 1 1)).run Tryz.prog (W.alloc (.cells #[.int .u8 d] 5)) = .ok (.string (Nib.bs [b])) (W.alloc (.cells #[.int .u8 d] 5)) := by
  subst hd
  exact conv_lit W [b]
set_option maxRecDepth 100000 in
set_option maxHeartbeats 1000000 in
/-- rlp.head. -/
theorem head_any (t n : Nat) (w : World) (ht : t < 193) (hn : n ≤ 140737488355328) :
    Calls Tryz.prog 58 #[.int .u8 (t : Int), .int .i64 (n : Int)] w fun e w' => e = .returned (.string (Nib.bs (Rlp.head t n))) ∧ Below w.heap.size w w' := by
  by_cases hs : n ≤ 55
  · have hE : Rlp.head t n = [UInt8.ofNat (t + n)] := by rw [Rlp.head, if_pos hs]
    rw [hE]
    have hcv := conv_one w ((t : Int) + (n : Int)) (UInt8.ofNat (t + n)) (by rw [UInt8.toNat_ofNat']; omega)
    clear hE
    generalize Nib.bs [UInt8.ofNat (t + n)] = X at hcv ⊢
    go_enter Tryz.func58, Tryz.ntmps58
    go_wp2_with fail
    go_ret
    exact ⟨rfl, (Below.refl _ _).alloc (Nat.le_refl _) _⟩
  · have hE : Rlp.head t n = UInt8.ofNat (t + 55 + (Rlp.digs n).length) :: Rlp.digs n := by rw [Rlp.head, if_neg hs]
    rw [hE]
    have HDL := Rlp.digs_length n
    obtain ⟨d, hd⟩ : ∃ d, d = Rlp.digs n := ⟨_, rfl⟩
    rw [← hd] at HDL ⊢
    have hc := digits_any n w (by omega)
    rw [← hd] at hc
    have HC := Lib.hid hc
    clear hc hd hE
    have hls : (Nib.bs d).size = d.length := Nib.bs_size d
    obtain ⟨L, hL⟩ : ∃ L, L = d.length := ⟨_, rfl⟩
    rw [← hL] at hls HDL ⊢
    obtain ⟨D, hD⟩ : ∃ D, D = Nib.bs d := ⟨_, rfl⟩
    rw [← hD] at hls HC
    have HLH := Lib.hid hL
    have HDH := Lib.hid hD
    clear hL hD
    have hcv1 := fun w1 => conv_one w1 ((t : Int) + 55 + (L : Int)) (UInt8.ofNat (t + 55 + L)) (by rw [UInt8.toNat_ofNat']; omega)
    have hX : Nib.bs (UInt8.ofNat (t + 55 + L) :: d) = Nib.bs [UInt8.ofNat (t + 55 + L)] ++ D := by
      rw [show UInt8.ofNat (t + 55 + L) :: d = [UInt8.ofNat (t + 55 + L)] ++ d from rfl, Nib.bs_append, ← HDH.out]
    rw [hX]
    clear hX
    have hXs : (Nib.bs [UInt8.ofNat (t + 55 + L)]).size = 1 := Nib.bs_size _
    generalize Nib.bs [UInt8.ofNat (t + 55 + L)] = X at hcv1 hXs ⊢
    have hfit : X.size + D.size ≤ maxLen := by rw [hXs, hls]; simp [maxLen]; omega
    go_enter Tryz.func58, Tryz.ntmps58
    go_wp2_with fail
    refine HC.out.mono ?_
    rintro e w1 ⟨rfl, bw⟩
    have BW := Lib.hid bw
    clear bw
    have hcv := hcv1 w1
    go_wp2_with fail
    go_ret
    exact ⟨rfl, BW.out.alloc BW.out.size _⟩
/-- rlp.Text. -/
theorem text_any (b : ByteArray) (w : World) (hb : b.size ≤ 70368744177664) :
    Calls Tryz.prog 30 #[.string b] w fun e w' => e = .returned (.string (Nib.bs (Rlp.text b.data.toList))) ∧ Below w.heap.size w w' := by
  have hh := head_any 128 b.size w (by omega) (by omega)
  have hHs : (Nib.bs (Rlp.head 128 b.size)).size ≤ 9 := by rw [Nib.bs_size]; exact Rlp.head_length _ _
  obtain ⟨H, hH⟩ : ∃ H, H = Nib.bs (Rlp.head 128 b.size) := ⟨_, rfl⟩
  rw [← hH] at hh hHs
  have hfit : H.size + b.size ≤ maxLen := by simp [maxLen]; omega
  have HHH := Lib.hid hH
  have HH := Lib.hid hh
  clear hh hH
  by_cases h1 : b.size = 1
  · have hl : b.data.toList = [b[0]] := by
      refine List.ext_getElem (by simpa using h1) ?_
      intro i h2 h3
      have : i = 0 := by simp at h3; omega
      subst this
      exact byte_get b 0 (by omega)
    by_cases h2 : (b[0].toNat : Int) < 128
    · have hT : Hid (Rlp.text b.data.toList = b.data.toList) := by
        refine Lib.hid ?_
        rw [Rlp.text, if_pos]
        rw [hl]
        simp [Rlp.own, UInt8.lt_iff_toNat_lt]
        omega
      clear hl
      go_enter Tryz.func30, Tryz.ntmps30
      go_wp2_with fail
      go_ret
      exact ⟨by rw [hT.out]; rfl, Below.refl _ _⟩
    · have hT : Hid (Rlp.text b.data.toList = Rlp.head 128 b.size ++ b.data.toList) := by
        refine Lib.hid ?_
        rw [Rlp.text, if_neg, Nib.len_of]
        rw [hl]
        simp [Rlp.own, UInt8.lt_iff_toNat_lt]
        omega
      clear hl
      go_enter Tryz.func30, Tryz.ntmps30
      go_wp2_with fail
      rw [h1] at HH
      refine HH.out.mono ?_
      rintro e w1 ⟨rfl, bw⟩
      go_wp2_with fail
      go_ret
      refine ⟨?_, bw⟩
      rw [hT.out, Nib.bs_append, Nib.bs_of, ← HHH.out]
      rfl
  · have hT : Hid (Rlp.text b.data.toList = Rlp.head 128 b.size ++ b.data.toList) := by
      refine Lib.hid ?_
      rw [Rlp.text, if_neg, Nib.len_of]
      rcases h3 : b.data.toList with _ | ⟨x, _ | ⟨y, r⟩⟩
      · simp [Rlp.own]
      · exact absurd (by rw [← Nib.len_of, h3]; rfl) h1
      · simp [Rlp.own]
    go_enter Tryz.func30, Tryz.ntmps30
    go_wp2_with fail
    refine HH.out.mono ?_
    rintro e w1 ⟨rfl, bw⟩
    go_wp2_with fail
    go_ret
    refine ⟨?_, bw⟩
    rw [hT.out, Nib.bs_append, Nib.bs_of, ← HHH.out]
    rfl
/-- rlp.Num. -/
theorem num_any (n : Nat) (w : World) (hn : n < 18446744073709551616) :
    Calls Tryz.prog 59 #[.int .u64 (n : Int)] w fun e w' => e = .returned (.string (Nib.bs (Rlp.num n))) ∧ Below w.heap.size w w' := by
  have HD := Lib.hid (digits_any n w hn)
  have HL := Rlp.digs_length n
  go_enter Tryz.func59, Tryz.ntmps59
  go_wp2_with fail
  refine HD.out.mono ?_
  rintro e w1 ⟨rfl, bw⟩
  have HT := Lib.hid (text_any (Nib.bs (Rlp.digs n)) w1 (by rw [Nib.bs_size]; omega))
  have BW := Lib.hid bw
  clear bw
  go_wp2_with fail
  refine HT.out.mono ?_
  rintro e w2 ⟨rfl, bw2⟩
  go_wp2_with fail
  go_ret
  exact ⟨rfl, BW.out.trans (bw2.mono BW.out.size)⟩
end Go.Proofs.YtlbebdkockejcaaGreatDoor
namespace Go.Proofs.YtlbebdkockejcaaGreatDoor
open Go.RowKit
/-- What is wrong, and where. -/
def faultAt (n : Nat) : Value := .iface 168 (.agg #[.int .i64 (n : Int), .int .i64 2])
def sizeVal : Except Nat (Nat × Nat) → Value
  | .error n => .tuple #[.int .i64 0, .int .i64 0, faultAt n]
  | .ok (f, n) => .tuple #[.int .i64 (f : Int), .int .i64 (n : Int), .nilIface]
theorem extract_list (s : ByteArray) (i j : Nat) : (s.extract i j).data.toList = (s.data.toList.take j).drop i := by
  simp [List.drop_take]
set_option maxRecDepth 100000 in
set_option maxHeartbeats 1000000 in
/-- rlp.size. -/
theorem size_any (s : ByteArray) (told : Nat) (w : World) (hs : s.size ≤ 70368744177664) (h0 : 1 ≤ s.size) (ht : told ≤ 63) :
    Calls Tryz.prog 106 #[.string s, .int .i64 (told : Int)] w fun e w' => e = .returned (sizeVal (Rlp.size s.data.toList told)) ∧ w = w' := by
  have hlen : s.data.toList.length = s.size := Nib.len_of s
  by_cases h1 : told ≤ 55
  · by_cases h2 : told + 1 ≤ s.size
    · have hR : Rlp.size s.data.toList told = .ok (1, told) := by rw [Rlp.size, if_pos h1, hlen, if_pos h2]
      rw [hR]
      clear hR hlen
      go_enter Tryz.func106, Tryz.ntmps106
      go_wp2_with fail
      go_ret3
      exact ⟨rfl, rfl⟩
    · have hR : Rlp.size s.data.toList told = .error s.size := by rw [Rlp.size, if_pos h1, hlen, if_neg h2]
      rw [hR]
      clear hR hlen
      go_enter Tryz.func106, Tryz.ntmps106
      go_wp2_with fail
      go_ret3
      exact ⟨rfl, rfl⟩
  · by_cases h2 : told - 54 ≤ 4
    · by_cases h3 : told - 54 ≤ s.size
      · have hi1 : 1 < s.size := by omega
        by_cases h4 : (s[1].toNat : Int) = 0
        · have hR : Rlp.size s.data.toList told = .error 1 := by
            rw [Rlp.size, if_neg h1]
            show ite _ _ _ = _
            rw [if_pos]
            refine .inr (.inr ?_)
            rw [List.getElem?_eq_getElem (by omega), byte_get s 1 hi1]
            congr 1
            exact UInt8.toNat_inj.1 (by rw [show (0 : UInt8).toNat = 0 from rfl]; omega)
          rw [hR]
          clear hR hlen
          go_enter Tryz.func106, Tryz.ntmps106
          go_wp2_with fail
          go_ret3
          exact ⟨rfl, rfl⟩
        · have hne : s.data.toList[1]? ≠ some 0 := by
            rw [List.getElem?_eq_getElem (by omega), byte_get s 1 hi1]
            intro h
            rw [Option.some.inj h] at h4
            exact h4 rfl
          obtain ⟨f, hf⟩ : ∃ f, f = told - 54 := ⟨_, rfl⟩
          have hfi : 1 + ((told : Int) - 55) = (f : Int) := by omega
          have hf2 : 2 ≤ f := by omega
          have hf4 : f ≤ 4 := by omega
          have hfs : f ≤ s.size := by omega
          obtain ⟨x, hx⟩ : ∃ x, x = s.extract 1 f := ⟨_, rfl⟩
          have hxl : x.data.toList = (s.data.toList.take f).drop 1 := by rw [hx, extract_list]
          have hsl : s.extract 1 f = x := hx.symm
          have hxs : x.size = f - 1 := by
            rw [← Nib.len_of, hxl]
            simp
            omega
          obtain ⟨v, hv⟩ : ∃ v, v = Rlp.val x.data.toList := ⟨_, rfl⟩
          have hvl : v < 16777216 := by
            have := Rlp.val_lt x.data.toList
            rw [← hv, Nib.len_of, hxs] at this
            have h2 : 256 ^ (f - 1) ≤ 256 ^ 3 := Nat.pow_le_pow_right (by decide) (by omega)
            omega
          have hcv := value_any x w (by omega)
          rw [← hv] at hcv
          have HCV := Lib.hid hcv
          have hR : Rlp.size s.data.toList told = if v ≤ 55 ∨ v > 1048576 then .error 1 else if f + v ≤ s.size then .ok (f, v) else .error s.size := by
            rw [Rlp.size, if_neg h1]
            show ite _ _ _ = _
            rw [if_neg (by rintro (h | h | h); omega; omega; exact hne h)]
            show ite (Rlp.val _ ≤ 55 ∨ _) _ _ = _
            rw [← hf, ← hxl, ← hv, hlen]
          have HR := Lib.hid hR
          have hsl2 : (Instr.slice 9 (.string s) (some (.int .i64 1)) (some (.int .i64 (f : Int))) none).run Tryz.prog w = .ok (.string x) w := by
            rw [run_slice_string _ _ _ _ _ _ _ Tryz.underlying9 (by omega) (by omega) (by omega)]
            rw [show ((f : Int)).toNat = f from rfl, show (1 : Int).toNat = 1 from rfl, hsl]
          clear hR hlen hxl hx hv hcv hne hf
          have hb4 : ((s[1].toNat : Int) == 0) = false := by simpa using h4
          by_cases h5 : v ≤ 55
          · rw [show Rlp.size s.data.toList told = .error 1 by rw [HR.out, if_pos (.inl h5)]]
            go_enter Tryz.func106, Tryz.ntmps106
            go_wp2_with fail
            refine HCV.out.mono ?_
            rintro e w1 ⟨rfl, rfl⟩
            go_wp2_with fail
            go_ret3
            exact ⟨rfl, rfl⟩
          · by_cases h6 : v ≤ 1048576
            · by_cases h7 : f + v ≤ s.size
              · rw [show Rlp.size s.data.toList told = .ok (f, v) by rw [HR.out, if_neg (by omega), if_pos h7]]
                go_enter Tryz.func106, Tryz.ntmps106
                go_wp2_with fail
                refine HCV.out.mono ?_
                rintro e w1 ⟨rfl, rfl⟩
                go_wp2_with fail
                go_ret3
                exact ⟨rfl, rfl⟩
              · rw [show Rlp.size s.data.toList told = .error s.size by rw [HR.out, if_neg (by omega), if_neg h7]]
                go_enter Tryz.func106, Tryz.ntmps106
                go_wp2_with fail
                refine HCV.out.mono ?_
                rintro e w1 ⟨rfl, rfl⟩
                go_wp2_with fail
                go_ret3
                exact ⟨rfl, rfl⟩
            · rw [show Rlp.size s.data.toList told = .error 1 by rw [HR.out, if_pos (.inr (by omega))]]
              go_enter Tryz.func106, Tryz.ntmps106
              go_wp2_with fail
              refine HCV.out.mono ?_
              rintro e w1 ⟨rfl, rfl⟩
              go_wp2_with fail
              go_ret3
              exact ⟨rfl, rfl⟩
      · have hR : Rlp.size s.data.toList told = .error 1 := by
          rw [Rlp.size, if_neg h1]
          show ite _ _ _ = _
          rw [if_pos]
          exact .inr (.inl (by omega))
        rw [hR]
        clear hR hlen
        go_enter Tryz.func106, Tryz.ntmps106
        go_wp2_with fail
        go_ret3
        exact ⟨rfl, rfl⟩
    · have hR : Rlp.size s.data.toList told = .error 1 := by
        rw [Rlp.size, if_neg h1]
        show ite _ _ _ = _
        rw [if_pos]
        exact .inl (by omega)
      rw [hR]
      clear hR hlen
      go_enter Tryz.func106, Tryz.ntmps106
      go_wp2_with fail
      go_ret3
      exact ⟨rfl, rfl⟩
end Go.Proofs.YtlbebdkockejcaaGreatDoor
namespace Go.Proofs.YtlbebdkockejcaaGreatDoor
open Go.RowKit
set_option linter.unusedVariables false
set_option linter.unusedSimpArgs false
theorem slice_mid (s : ByteArray) (f n : Nat) (h : f + n ≤ s.size) (W : World) : (Instr.slice 9 (.string s) (some (.int .i64 (f : Int))) (some (.int .i64 ((f : Int) + (n : Int)))) none).run Tryz.prog W = .ok (.string (s.extract f (f + n))) W := by
  rw [run_slice_string _ _ _ _ _ _ _ Tryz.underlying9 (by omega) (by omega) (by omega)]
  rw [show ((f : Int)).toNat = f from rfl, show ((f : Int) + (n : Int)).toNat = f + n by omega]
theorem slice_from (s : ByteArray) (f n : Nat) (h : f + n ≤ s.size) (W : World) : (Instr.slice 9 (.string s) (some (.int .i64 ((f : Int) + (n : Int)))) none none).run Tryz.prog W = .ok (.string (s.extract (f + n) s.size)) W := by
  rw [run_slice_string_l _ _ _ Tryz.underlying9 _ _ (by omega) (by omega)]
  rw [show ((f : Int) + (n : Int)).toNat = f + n by omega]
theorem extract_size (s : ByteArray) (f n : Nat) (h : f + n ≤ s.size) : (s.extract f (f + n)).size = n := by
  rw [← Nib.len_of, Lib.extract_data]
  simp
  omega
theorem byte_extract (s : ByteArray) (f n i : Nat) (h : f + n ≤ s.size) (hi : i < n) (h1 : i < (s.extract f (f + n)).size) (h2 : f + i < s.size) : (s.extract f (f + n))[i] = s[f + i] := by
  rw [← byte_get, ← byte_get]
  simp [Lib.extract_data]
def firstVal (s : ByteArray) : Except Nat (Bool × Nat × Nat) → Value
  | .error n => .tuple #[.agg #[.bool false, .string ByteArray.empty, .string ByteArray.empty], faultAt n]
  | .ok (l, f, n) => .tuple #[.agg #[.bool l, .string (s.extract f (f + n)), .string (s.extract (f + n) s.size)], .nilIface]
set_option maxRecDepth 100000 in
set_option maxHeartbeats 1000000 in
/-- rlp.first. -/
theorem first_any (s : ByteArray) (w : World) (hs : s.size ≤ 70368744177664) :
    Calls Tryz.prog 96 #[.string s] w fun e w' => e = .returned (firstVal s (Rlp.first s.data.toList)) ∧ Below w.heap.size w w' := by
  by_cases h0 : s.size = 0
  · have hE : s = ByteArray.empty := by
      have := Nib.len_of s
      rw [h0] at this
      exact ByteArray.ext (Array.toList_inj.1 (List.length_eq_zero_iff.1 this))
    subst hE
    have hR : Rlp.first ByteArray.empty.data.toList = .error 0 := rfl
    rw [hR]
    go_enter Tryz.func96, Tryz.ntmps96
    go_wp2_with fail
    go_returns
    exact ⟨rfl, (Below.refl _ _).alloc (Nat.le_refl _) _⟩
  · have h0' : 0 < s.size := by omega
    obtain ⟨r, hl⟩ : ∃ r, s.data.toList = s[0] :: r := by
      rcases h : s.data.toList with _ | ⟨c, r⟩
      · have := Nib.len_of s; rw [h] at this; exact absurd this.symm h0
      · have := byte_get s 0 h0'
        simp only [h, List.getElem_cons_zero] at this
        exact ⟨r, by rw [this]⟩
    have hne : s.toList.isEmpty = false := by rw [ByteArray.toList_eq, hl]; rfl
    have HL := Lib.hid hl
    clear hl
    by_cases h1 : (s[0].toNat : Int) < 128
    · have hR : Rlp.first s.data.toList = .ok (false, 0, 1) := by
        rw [HL.out, Rlp.first, if_pos (by rw [UInt8.lt_iff_toNat_lt]; show _ < 128; omega)]
      rw [hR]
      clear hR
      go_enter Tryz.func96, Tryz.ntmps96
      go_wp2_with fail
      go_region
      all_goals go_wp2_with fail
      go_returns
      exact ⟨rfl, ((Below.refl _ _).alloc (Nat.le_refl _) _).drew⟩
    · obtain ⟨l, hl⟩ : ∃ l : Bool, l = decide ((192 : Int) ≤ (s[0].toNat : Int)) := ⟨_, rfl⟩
      obtain ⟨told, htold⟩ : ∃ told : Nat, told = if l then s[0].toNat - 192 else s[0].toNat - 128 := ⟨_, rfl⟩
      have hc := s[0].toNat_lt
      have hR : Rlp.first s.data.toList = match Rlp.size s.data.toList told with
          | .error e => .error e
          | .ok (f, n) => if l = false ∧ f = 1 ∧ n = 1 ∧ Rlp.own (r.take 1) = true then .error 1 else .ok (l, f, n) := by
        rw [HL.out, Rlp.first, if_neg (by rw [UInt8.lt_iff_toNat_lt]; show ¬ _ < 128; omega)]
        by_cases h2 : s[0] < 192
        · have : l = false := by
            rw [hl]
            rw [UInt8.lt_iff_toNat_lt] at h2
            have h3 : s[0].toNat < 192 := h2
            simp
            omega
          subst this
          have ht : told = s[0].toNat - 128 := by rw [htold]; rfl
          rw [if_pos h2, ht]
          rcases Rlp.size (s[0] :: r) (s[0].toNat - 128) with e | ⟨f, n⟩ <;> simp
        · have : l = true := by
            rw [hl]
            rw [UInt8.lt_iff_toNat_lt] at h2
            have h3 : ¬ s[0].toNat < 192 := h2
            simp
            omega
          subst this
          have ht : told = s[0].toNat - 192 := by rw [htold]; rfl
          rw [if_neg h2, ht]
          rcases Rlp.size (s[0] :: r) (s[0].toNat - 192) with e | ⟨f, n⟩ <;> simp
      have hts : told ≤ 63 := by
        rw [htold, hl]
        split
        · omega
        · next h => simp at h; omega
      have hz := fun W : World => size_any s told W hs (by omega) hts
      have HRR := Lib.hid hR
      have HLL := Lib.hid hl
      have HTO := Lib.hid htold
      clear hR
      rcases hT : Rlp.size s.data.toList told with e | ⟨f, n⟩
      · simp only [hT, sizeVal, faultAt] at hz
        rw [show Rlp.first s.data.toList = .error e by rw [HRR.out, hT]]
        have HZ := Lib.hid hz
        clear hz hT
        rcases l with _ | _
        · have h2 : (s[0].toNat : Int) < 192 := by simpa using hl
          have hd : decide ((192 : Int) ≤ (s[0].toNat : Int)) = false := hl.symm
          have h3 : (s[0].toNat : Int) - 128 = (told : Int) := by simp at htold; omega
          clear hl htold
          go_enter Tryz.func96, Tryz.ntmps96
          go_wp2_with fail
          refine (HZ.out _).mono ?_
          rintro e w1 ⟨rfl, rfl⟩
          go_wp2_with fail
          go_returns
          exact ⟨rfl, ((Below.refl _ _).alloc (Nat.le_refl _) _).alloc (by simp) _⟩
        · have h2 : ¬ (s[0].toNat : Int) < 192 := by simpa using hl
          have hd : decide ((192 : Int) ≤ (s[0].toNat : Int)) = true := hl.symm
          have h3 : (s[0].toNat : Int) - 192 = (told : Int) := by simp at htold; omega
          clear hl htold
          go_enter Tryz.func96, Tryz.ntmps96
          go_wp2_with fail
          refine (HZ.out _).mono ?_
          rintro e w1 ⟨rfl, rfl⟩
          go_wp2_with fail
          go_returns
          exact ⟨rfl, ((Below.refl _ _).alloc (Nat.le_refl _) _).alloc (by simp) _⟩
      · simp only [hT, sizeVal] at hz
        obtain ⟨hf1, hfn⟩ := Rlp.size_ok hT
        rw [Nib.len_of] at hfn
        have HT := Lib.hid hT
        have HZ := Lib.hid hz
        clear hz hT
        have hs1 := slice_mid s f n hfn
        have hs2 := slice_from s f n hfn
        have hXs := extract_size s f n hfn
        obtain ⟨X, hX⟩ : ∃ X, X = s.extract f (f + n) := ⟨_, rfl⟩
        rw [← hX] at hs1 hXs
        rcases l with _ | _
        · have h2 : (s[0].toNat : Int) < 192 := by simpa using hl
          have hd : decide ((192 : Int) ≤ (s[0].toNat : Int)) = false := hl.symm
          have h3 : (s[0].toNat : Int) - 128 = (told : Int) := by simp at htold; omega
          clear hl htold
          by_cases hf : f = 1 ∧ n = 1
          · obtain ⟨rfl, rfl⟩ := hf
            obtain ⟨b, hb⟩ : ∃ b, b = X[0]'(by omega) := ⟨_, rfl⟩
            have hb0 : b = s[1]'(by omega) := by
              rw [hb]
              simp only [hX]
              exact byte_extract s 1 1 0 hfn (by omega) _ _
            have HOwn : Rlp.own (r.take 1) = decide (b.toNat < 128) := by
              have e1 : s.data.toList[1]? = some b := by
                rw [List.getElem?_eq_getElem (by rw [Nib.len_of]; omega), byte_get s 1 (by omega), hb0]
              rw [HL.out] at e1
              rcases r with _ | ⟨b', r'⟩
              · simp at e1
              · simp at e1
                subst e1
                simp [Rlp.own, UInt8.lt_iff_toNat_lt]
            have HX := Lib.hid hX
            have hs1' : ∀ W : World, (Instr.slice 9 (.string s) (some (.int .i64 1)) (some (.int .i64 2)) none).run Tryz.prog W = .ok (.string X) W := hs1
            have hs2' : ∀ W : World, (Instr.slice 9 (.string s) (some (.int .i64 2)) none none).run Tryz.prog W = .ok (.string (s.extract (1 + 1) s.size)) W := hs2
            clear hb0 hX hs1 hs2
            by_cases hlow : b.toNat < 128
            · rw [show Rlp.first s.data.toList = .error 1 by rw [HRR.out, HT.out]; simp [HOwn, hlow]]
              clear HOwn
              have hbi : ((X[0]'(by omega)).toNat : Int) < 128 := by rw [← hb]; omega
              go_enter Tryz.func96, Tryz.ntmps96
              go_wp2_with fail
              refine (HZ.out _).mono ?_
              rintro e w1 ⟨rfl, rfl⟩
              go_wp2_with fail
              go_region
              all_goals go_wp2_with fail
              go_returns
              exact ⟨rfl, (((Below.refl _ _).alloc (Nat.le_refl _) _).alloc (by simp) _).drew⟩
            · rw [show Rlp.first s.data.toList = .ok (false, 1, 1) by rw [HRR.out, HT.out]; simp [HOwn, hlow]]
              clear HOwn
              have hbi : ¬ ((X[0]'(by omega)).toNat : Int) < 128 := by rw [← hb]; omega
              go_enter Tryz.func96, Tryz.ntmps96
              go_wp2_with fail
              refine (HZ.out _).mono ?_
              rintro e w1 ⟨rfl, rfl⟩
              go_wp2_with fail
              go_region
              all_goals go_wp2_with fail
              go_returns
              exact ⟨by rw [HX.out]; first | rfl | (rw [hd]; rfl), (((Below.refl _ _).alloc (Nat.le_refl _) _).alloc (by simp) _).drew⟩
          · rw [show Rlp.first s.data.toList = .ok (false, f, n) by rw [HRR.out, HT.out]; exact if_neg (fun h => hf ⟨h.2.1, h.2.2.1⟩)]
            have HX := Lib.hid hX
            clear hX
            have hf : ((n : Int) == 1) = false ∨ (((n : Int) == 1) = true ∧ ((f : Int) == 1) = false) := by
              by_cases h : n = 1
              · exact .inr ⟨by simp [h], by simp; omega⟩
              · exact .inl (by simp; omega)
            rcases hf with hq | ⟨hq, hq2⟩
            all_goals
              go_enter Tryz.func96, Tryz.ntmps96
              go_wp2_with fail
              refine (HZ.out _).mono ?_
              rintro e w1 ⟨rfl, rfl⟩
              go_wp2_with fail
              go_region
              all_goals go_wp2_with fail
              go_returns
              exact ⟨by rw [HX.out]; first | rfl | (rw [hd]; rfl), (((Below.refl _ _).alloc (Nat.le_refl _) _).alloc (by simp) _).drew⟩
        · rw [show Rlp.first s.data.toList = .ok (true, f, n) by rw [HRR.out, HT.out]; exact if_neg (fun h => by cases h.1)]
          have HX := Lib.hid hX
          clear hX
          have h2 : ¬ (s[0].toNat : Int) < 192 := by simpa using hl
          have hd : decide ((192 : Int) ≤ (s[0].toNat : Int)) = true := hl.symm
          have h3 : (s[0].toNat : Int) - 192 = (told : Int) := by simp at htold; omega
          clear hl htold
          go_enter Tryz.func96, Tryz.ntmps96
          go_wp2_with fail
          refine (HZ.out _).mono ?_
          rintro e w1 ⟨rfl, rfl⟩
          go_wp2_with fail
          go_region
          all_goals go_wp2_with fail
          go_returns
          exact ⟨by rw [HX.out]; first | rfl | (rw [hd]; rfl), (((Below.refl _ _).alloc (Nat.le_refl _) _).alloc (by simp) _).drew⟩
end Go.Proofs.YtlbebdkockejcaaGreatDoor

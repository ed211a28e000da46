/-
  How many of a node's refs are of hashes.
-/
import Derived.Test.YtfeonjiiijdibaaGreatDoorNodeGrowsP
namespace Go.Proofs.YtfeonjiiijdibaaGreatDoor
open Go.RowKit Go.Proofs.Nod
set_option linter.unusedVariables false
set_option linter.unusedSimpArgs false
def cntH (n : Nd) (k : Nat) : Nat := (((rfs n).take k).filterMap hashB).length
theorem cntH_le (n : Nd) (k : Nat) : cntH n k ≤ 16 := by
  unfold cntH
  refine Nat.le_trans (List.length_filterMap_le _ _) ?_
  simp [rfs]
  omega
theorem cntH_zero (n : Nd) : cntH n 0 = 0 := rfl
theorem take_rfs (n : Nd) (k : Nat) (hk : k < 16) : (rfs n).take (k + 1) = (rfs n).take k ++ [rf n k] := by
  rw [List.take_add_one]
  congr 1
  simp [rfs, hk]
theorem cntH_none (n : Nd) (k : Nat) (hk : k < 16) (h : hashB (rf n k) = none) : cntH n (k + 1) = cntH n k := by
  unfold cntH
  rw [take_rfs n k hk, List.filterMap_append]
  simp [h]
theorem cntH_some (n : Nd) (k : Nat) (hk : k < 16) (x : ByteArray) (h : hashB (rf n k) = some x) : cntH n (k + 1) = cntH n k + 1 := by
  unfold cntH
  rw [take_rfs n k hk, List.filterMap_append]
  simp [h]
theorem hashB_e0 : hashB e0 = none := by
  unfold hashB
  rw [if_neg]
  rintro ⟨h, _⟩
  exact absurd h (by decide)
theorem filterMap_used : ∀ l : List ByteArray, (l.filter (fun r => decide (r ≠ e0))).filterMap hashB = l.filterMap hashB
  | [] => rfl
  | x :: l => by
    by_cases h : x = e0
    · rw [List.filter_cons, if_neg (by simpa using h), filterMap_used l, List.filterMap_cons, h, hashB_e0]
    · rw [List.filter_cons, if_pos (by simpa using h), List.filterMap_cons, List.filterMap_cons, filterMap_used l]
theorem hashes_all (n : Nd) (hv : validB n = true) : hashes n = (rfs n).filterMap hashB := by
  unfold hashes
  rw [if_pos hv, used_all, filterMap_used]
theorem cntH_end (n : Nd) (hv : validB n = true) : cntH n 16 = (hashes n).length := by
  rw [hashes_all n hv]
  unfold cntH
  rw [List.take_of_length_le (by simp [rfs])]
theorem rfs_part (n : Nd) (k : Nat) (hk : k < 16) : rfs n = (rfs n).take k ++ rf n k :: (rfs n).drop (k + 1) := by
  have := part_at (rfs n) k (by rw [rfs_length]; exact hk)
  rw [show (rfs n).getD k e0 = rf n k by simp [rfs, hk]] at this
  exact this
theorem hashes_at (n : Nd) (hv : validB n = true) (k : Nat) (hk : k < 16) (x : ByteArray) (h : hashB (rf n k) = some x) : (hashes n)[cntH n k]? = some x := by
  rw [hashes_all n hv]
  conv => lhs; rw [rfs_part n k hk]
  rw [List.filterMap_append, List.filterMap_cons, h]
  unfold cntH
  simp
theorem in_of_hash {r x : ByteArray} (h : hashB r = some x) : inB r = none := by
  cases hm : inB r with
  | none => rfl
  | some m =>
    have := (in_get hm).1
    have := (hashB_size h).1
    omega
theorem in_hashes {r : ByteArray} {m : Nd} (h : inB r = some m) : m.refs.length = 16 ∧ hashes m = [] := by
  have hf := in_facts h
  exact ⟨hf.2.1, hashes_short m (fun x hx => Nat.lt_trans (hf.2.2.1 x hx) hf.1)⟩
theorem run_idx {o : Oper} {a : Act} {W : World} {x y : Operand} (ho : o.op = .indexAddr 29 x y) (b off i n cap : Nat) (hx : a.eval x = .slice (some ⟨b, off, none⟩) n cap) (hy : a.eval y = .int .i64 (i : Int)) (hi : i < n) :
    (execOp a.eval o).run Tryz.prog W = .ok (.value (.pointer (some ⟨b, off + i, none⟩))) W := by
  unfold execOp
  simp only [ho, hx, hy]
  have h1 : ¬ (n : Int) ≤ (i : Int) := by omega
  have h0 : ¬ (i : Int) < 0 := by omega
  simp [go_sem, elemStrs, sizeStrs, h1, h0, Addr.add, Result.andThen, hi]
theorem run_inc {o : Oper} {a : Act} {W : World} {x : Operand} (ho : o.op = .binOp .add 3 x (.const (.int .i64 1)) 3) (l : Nat) (hx : a.eval x = .int .i64 (l : Int)) (hl : l ≤ 1000) :
    (execOp a.eval o).run Tryz.prog W = .ok (.value (.int .i64 ((l + 1 : Nat) : Int))) W := run_addn ho l 1 hx rfl hl (by decide)
end Go.Proofs.YtfeonjiiijdibaaGreatDoor

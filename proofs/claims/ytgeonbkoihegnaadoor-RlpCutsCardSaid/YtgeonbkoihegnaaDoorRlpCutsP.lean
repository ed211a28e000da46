/-
  What the law RlpCuts leans on: items that end too early, or have something behind them.
-/
import Derived.Test.YtgeonbkoihegnaaDoorRlpLaid
namespace Go.Proofs.Rlp
theorem head_pos (t n : Nat) : 1 ≤ (head t n).length := by unfold head; split <;> simp
theorem text_pos (b : List UInt8) : 1 ≤ (text b).length := by
  unfold text
  split
  · next h => obtain ⟨c, rfl, _⟩ := own_one h; simp
  · have := head_pos 128 b.length; simp; omega
theorem text_most (b : List UInt8) : (text b).length ≤ 9 + b.length := by
  unfold text
  split
  · omega
  · have := head_length 128 b.length; simp; omega
theorem first_list (l : List (List UInt8)) (h : l.flatten.length ≤ 1048576) : ∃ f n, first (list l) = .ok (true, f, n) ∧ f + n = (list l).length ∧ mid (list l) f n = l.flatten :=
  ⟨_, _, first_list_body l.flatten h, by simp [list], by rw [mid, List.take_of_length_le (by simp [list]), list, List.drop_left]⟩
theorem its_two (a b : List UInt8) (ha : a.length ≤ 1048576) (hb : b.length ≤ 1048576) : its (text a ++ text b).length (text a ++ text b) = some [text a, text b] := by
  obtain ⟨f, n, h1, h2, _⟩ := first_whole a ha
  obtain ⟨f', n', h1', h2', _⟩ := first_whole b hb
  have pa := text_pos a
  have pb := text_pos b
  rw [its_append (text a).length (text a ++ text b).length _ _ [text a] (Nat.le_refl _) (by simp) (its_one _ _ _ _ _ pa h1 h2), its_one _ _ _ _ _ (by simp; omega) h1' h2']
  rfl
end Go.Proofs.Rlp
namespace Go.Proofs.YtgeonbkoihegnaaDoor
open Go.RowKit
theorem chk_bad {s : ByteArray} {e : Nat} (h : Rlp.first s.data.toList = .error e) (d : Nat) : chk d s = some e := by
  cases d <;> (rw [chk, chkTop, h])
theorem chk_more {s : ByteArray} {l : Bool} {f n : Nat} (h : Rlp.first s.data.toList = .ok (l, f, n)) (hn : f + n ≠ s.size) (d : Nat) : chk d s = some (f + n) := by
  cases d <;> (rw [chk, chkTop, h]; simp [hn])
theorem chk_text (b : List UInt8) (hb : b.length ≤ 1048576) (d : Nat) : chk d (Nib.bs (Rlp.text b)) = none := by
  obtain ⟨f, n, h1, h2, _⟩ := Rlp.first_whole b hb
  have h3 : Rlp.first (Nib.bs (Rlp.text b)).data.toList = .ok (false, f, n) := h1
  cases d <;> (rw [chk, chkTop, h3]; simp [h2, Nib.bs_size])
theorem chk_two (a b : List UInt8) (ha : a.length ≤ 1000) (hb : b.length ≤ 1000) (d : Nat) : chk (d + 1) (Nib.bs (Rlp.list [Rlp.text a, Rlp.text b])) = none := by
  have la := Rlp.text_most a
  have lb := Rlp.text_most b
  obtain ⟨f, n, h1, h2, h3⟩ := Rlp.first_list [Rlp.text a, Rlp.text b] (by simp; omega)
  have h4 : Rlp.first (Nib.bs (Rlp.list [Rlp.text a, Rlp.text b])).data.toList = .ok (true, f, n) := h1
  have h5 : (Nib.bs (Rlp.list [Rlp.text a, Rlp.text b])).extract f (f + n) = Nib.bs (Rlp.text a ++ Rlp.text b) := by
    rw [← Nib.bs_of (ByteArray.extract _ _ _), Lib.extract_data, Nib.bs_data]
    unfold Rlp.mid at h3
    rw [← List.drop_take, h3]
    simp
  have hr : rows (Nib.bs (Rlp.text a ++ Rlp.text b)) = some [Rlp.text a, Rlp.text b] := by
    unfold rows
    rw [Nib.bs_size, Nib.bs_data]
    exact Rlp.its_two a b (by omega) (by omega)
  rw [chk, chkTop, h4]
  simp only [h2, Nib.bs_size]
  simp only [ne_eq, not_true_eq_false, if_false, Bool.true_eq_false]
  rw [← h2, h5, rows_some hr]
  simp only [List.map_cons, List.map_nil, chkL]
  rw [chk_text a (by omega), chk_text b (by omega)]
/-- A whole item that is cut. -/
theorem cut_err {s : List UInt8} {l : Bool} {f n : Nat} (h : Rlp.first s = .ok (l, f, n)) (hw : f + n = s.length) (k : Nat) (hk : k < s.length) : ∃ e, Rlp.first ((Nib.bs s).extract 0 k).data.toList = .error e := by
  rw [Lib.extract_data, List.drop_zero, Nat.sub_zero]
  exact Rlp.first_cut h hw k hk
theorem split_cut {s : List UInt8} {l : Bool} {f n : Nat} (h : Rlp.first s = .ok (l, f, n)) (hw : f + n = s.length) (k : Nat) (hk : k < s.length) (hs : s.length ≤ 1048576) (w : World) (hl : Laid2 w) :
    Calls Tryd.prog 17 #[.string ((Nib.bs s).extract 0 k)] w fun e w' => e = .returned (.tuple #[.bool false, .string ByteArray.empty, .string ByteArray.empty, .int .i64 2]) ∧ Below w.heap.size w w' := by
  obtain ⟨e, he⟩ := cut_err h hw k hk
  have := split_any ((Nib.bs s).extract 0 k) w (by have := Nib.bs_size s; rw [ByteArray.size_extract]; omega) hl
  rw [he] at this
  exact this
theorem check_cut {s : List UInt8} {l : Bool} {f n : Nat} (h : Rlp.first s = .ok (l, f, n)) (hw : f + n = s.length) (k : Nat) (hk : k < s.length) (hs : s.length ≤ 1048576) (w : World) (hl : Laid2 w) :
    Calls Tryd.prog 18 #[.string ((Nib.bs s).extract 0 k)] w fun e w' => e = .returned (.int .i64 2) ∧ Below w.heap.size w w' := by
  obtain ⟨e, he⟩ := cut_err h hw k hk
  have := rcheck_any ((Nib.bs s).extract 0 k) w (by have := Nib.bs_size s; rw [ByteArray.size_extract]; omega) hl
  rw [chkNo, chk_bad he] at this
  exact this
theorem check_more {s r : List UInt8} {l : Bool} {f n : Nat} (h : Rlp.first s = .ok (l, f, n)) (hw : f + n = s.length) (hr : 1 ≤ r.length) (hs : s.length + r.length ≤ 1048576) (w : World) (hl : Laid2 w) :
    Calls Tryd.prog 18 #[.string (Nib.bs s ++ Nib.bs r)] w fun e w' => e = .returned (.int .i64 2) ∧ Below w.heap.size w w' := by
  rw [← Nib.bs_append]
  have h1 : Rlp.first (Nib.bs (s ++ r)).data.toList = .ok (l, f, n) := Rlp.first_append h
  have := rcheck_any (Nib.bs (s ++ r)) w (by rw [Nib.bs_size]; simp; omega) hl
  rw [chkNo, chk_more h1 (by rw [Nib.bs_size]; simp; omega)] at this
  exact this
theorem check_two (a b : List UInt8) (ha : a.length ≤ 1000) (hb : b.length ≤ 1000) (w : World) (hl : Laid2 w) :
    Calls Tryd.prog 18 #[.string (Nib.bs (Rlp.list [Rlp.text a, Rlp.text b]))] w fun e w' => e = .returned (.int .i64 0) ∧ Below w.heap.size w w' := by
  have la := Rlp.text_most a
  have lb := Rlp.text_most b
  have h9 := Rlp.head_length 192 (Rlp.text a ++ Rlp.text b).length
  have := rcheck_any (Nib.bs (Rlp.list [Rlp.text a, Rlp.text b])) w (by rw [Nib.bs_size]; simp [Rlp.list] at h9 ⊢; omega) hl
  rw [chkNo, chk_two a b ha hb] at this
  exact this
theorem texts_eq (a b : ByteArray) (ha : a.size ≤ 1000) (hb : b.size ≤ 1000) : ((Nib.bs (Rlp.text a.data.toList)).toList == (Nib.bs (Rlp.text b.data.toList)).toList) = (a.toList == b.toList) := by
  simp only [ByteArray.toList_eq, Nib.bs_data]
  by_cases h : a.data.toList = b.data.toList
  · rw [h]; simp
  · have : Rlp.text a.data.toList ≠ Rlp.text b.data.toList := fun e => h (Rlp.text_inj (by simp; omega) (by simp; omega) e)
    rw [beq_eq_false_iff_ne.2 h, beq_eq_false_iff_ne.2 this]
end Go.Proofs.YtgeonbkoihegnaaDoor

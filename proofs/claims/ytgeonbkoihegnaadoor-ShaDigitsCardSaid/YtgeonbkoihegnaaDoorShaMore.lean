import Derived.Test.YtgeonbkoihegnaaDoorShaLaid
namespace Go.Proofs.Sha
theorem encode_append (a b : List UInt8) : Lib.Hx.encode (a ++ b) = Lib.Hx.encode a ++ Lib.Hx.encode b := by simp [Lib.Hx.encode]
theorem digit_inj : ∀ a b : Fin 16, Lib.Hx.digit a.val = Lib.Hx.digit b.val → a = b := by decide +kernel
theorem encode_inj (a b : List UInt8) (h : Lib.Hx.encode a = Lib.Hx.encode b) : a = b := by
  induction a generalizing b with
  | nil =>
    cases b with
    | nil => rfl
    | cons y t => rw [Lib.Hx.encode_cons] at h; simp [Lib.Hx.encode] at h
  | cons x r ih =>
    cases b with
    | nil => rw [Lib.Hx.encode_cons] at h; simp [Lib.Hx.encode] at h
    | cons y t =>
      rw [Lib.Hx.encode_cons, Lib.Hx.encode_cons] at h
      simp only [List.cons.injEq] at h
      have hx := x.toNat_lt
      have hy := y.toNat_lt
      have e1 := digit_inj ⟨x.toNat / 16, by omega⟩ ⟨y.toNat / 16, by omega⟩ h.1
      have e2 := digit_inj ⟨x.toNat % 16, by omega⟩ ⟨y.toNat % 16, by omega⟩ h.2.1
      simp only [Fin.mk.injEq] at e1 e2
      have : x = y := UInt8.toNat_inj.1 (by omega)
      rw [this, ih t h.2.2]
end Go.Proofs.Sha
namespace Go.Proofs.YtgeonbkoihegnaaDoor
open Go.RowKit
theorem beq_bytes (a b : ByteArray) : (a.toList == b.toList) = decide (a = b) := by
  rw [ByteArray.toList_eq, ByteArray.toList_eq]
  by_cases h : a = b
  · subst h; simp
  · have : a.data.toList ≠ b.data.toList := fun e => h (ByteArray.ext (Array.toList_inj.1 e))
    rw [beq_eq_false_iff_ne.2 this, decide_eq_false h]
theorem hex_eq (a b : ByteArray) : ((Nib.bs (Lib.Hx.encode a.data.toList)).toList == (Nib.bs (Lib.Hx.encode b.data.toList)).toList) = (a.toList == b.toList) := by
  rw [beq_bytes, beq_bytes]
  by_cases h : a = b
  · subst h; simp
  · have : Nib.bs (Lib.Hx.encode a.data.toList) ≠ Nib.bs (Lib.Hx.encode b.data.toList) := fun e => h (by
      have := congrArg (fun x : ByteArray => x.data.toList) e
      simp only [Nib.bs_data] at this
      exact ByteArray.ext (Array.toList_inj.1 (Sha.encode_inj _ _ this)))
    simp [h, this]
theorem col_comm (a b : ByteArray) : colB a b = colB b a := by
  unfold colB
  rw [beq_bytes, beq_bytes, beq_bytes, beq_bytes]
  by_cases h : a = b
  · subst h; rfl
  · by_cases h2 : Nib.bs (Sha.sum a.data.toList) = Nib.bs (Sha.sum b.data.toList)
    · simp [h, h2, Ne.symm h]
    · simp [h2, Ne.symm h2]
theorem hex_join (a b : ByteArray) (W : World) (ha : a.size ≤ 300) (hb : b.size ≤ 300) :
    Calls Tryd.prog 22 #[.string (a ++ b)] W fun e w' => e = .returned (.string (Nib.bs (Lib.Hx.encode a.data.toList) ++ Nib.bs (Lib.Hx.encode b.data.toList))) ∧ Below W.heap.size W w' := by
  refine (hex_any (a ++ b) W (by rw [ByteArray.size_append]; omega)).mono ?_
  rintro e w' ⟨rfl, h⟩
  refine ⟨?_, h⟩
  rw [Nib.data_append, Sha.encode_append, Nib.bs_append]
theorem write_nat (g : Nat) (m : List UInt8) (s : ByteArray) (w : World) (hl : Laid w) (hg1 : 1 < g) (hs : s.size ≤ 1048576) (hh : Hs g m (UInt64.ofNat m.length) w) :
    Calls Tryd.prog 24 #[.pointer (some ⟨g, 0, none⟩), .string s] w fun e w' => e = .returned (.pointer (some ⟨g, 0, none⟩)) ∧ Hs g (m ++ s.data.toList) (UInt64.ofNat (m ++ s.data.toList).length) w' ∧ w.grownBy w' (some g) := by
  refine (write_any g m _ s w hl hg1 hs hh).mono ?_
  rintro e w' ⟨rfl, h, hg⟩
  refine ⟨rfl, ?_, hg⟩
  rw [List.length_append, ← ofNat_add, Nib.len_of]
  exact h
theorem Hs.grown {g g' : Nat} {m : List UInt8} {all : UInt64} {w w' : World} (h : Hs g m all w) (hw : w.grownBy w' (some g')) (hne : g ≠ g') : Hs g m all w' := h.of_block (hw.block g h.lt (by simpa using hne))
theorem Hs.below {g : Nat} {m : List UInt8} {all : UInt64} {w w' : World} (h : Hs g m all w) (hw : Below w.heap.size w w') : Hs g m all w' := h.of_block (hw.block g h.lt)
/-- A digit's sign. -/
theorem digit_sign (d : Nat) (hd : d < 16) : ((Lib.Hx.digit d).toNat : Int) = if d < 10 then 48 + (d : Int) else 87 + (d : Int) := by
  have : ∀ a : Fin 16, (Lib.Hx.digit a.val).toNat = if a.val < 10 then 48 + a.val else 87 + a.val := by decide +kernel
  have := this ⟨d, hd⟩
  simp only at this
  rw [this]
  split <;> omega
theorem laid_lt {w : World} (hl : Laid w) : 1 < w.heap.size := by obtain ⟨_, ⟨t1, f1, e1⟩⟩ := hl; exact (Array.getElem?_eq_some_iff.1 e1).1
end Go.Proofs.YtgeonbkoihegnaaDoor

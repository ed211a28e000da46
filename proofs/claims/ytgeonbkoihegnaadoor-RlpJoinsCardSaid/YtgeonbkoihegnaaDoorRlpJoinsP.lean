/-
  What the law RlpJoins leans on: what Items tells, by rows.
-/
import Derived.Test.YtgeonbkoihegnaaDoorRlpLaid
import Derived.Test.YtgeonbkoihegnaaDoorSame
namespace Go.Proofs.Rlp
theorem its_length (m : Nat) : ∀ (s : List UInt8) (xs : List (List UInt8)), its m s = some xs → xs.length ≤ s.length := by
  induction m with
  | zero => intro s xs h; cases h; simp
  | succ m ih =>
    intro s xs h
    rcases s with _ | ⟨c, r⟩
    · rw [its_nil] at h; cases h; simp
    · rcases hT : first (c :: r) with e | ⟨l, f, n⟩
      · rw [its_bad hT] at h; cases h
      · have h2 := first_ok hT
        rw [its_ok hT] at h
        rcases hr : its m ((c :: r).drop (f + n)) with _ | ys
        · rw [hr] at h; cases h
        · rw [hr] at h
          simp only [Option.map_some, Option.some.injEq] at h
          subst h
          have := ih _ _ hr
          simp at this h2 ⊢
          omega
end Go.Proofs.Rlp
namespace Go.Proofs.YtgeonbkoihegnaaDoor
open Go.RowKit
/-- The items of a text, as strings. -/
def rowsB (s : ByteArray) : Option (List ByteArray) := (rows s).map (·.map Nib.bs)
theorem rows_few (s : ByteArray) (xs : List ByteArray) (h : rowsB s = some xs) : xs.length ≤ s.size := by
  unfold rowsB at h
  rcases hr : rows s with _ | ys
  · rw [hr] at h; cases h
  · rw [hr] at h
    cases h
    have := Rlp.its_length _ _ _ hr
    simpa using this
theorem rowsB_append (a b : ByteArray) {xs : List ByteArray} (h : rowsB a = some xs) : rowsB (a ++ b) = (rowsB b).map (xs ++ ·) := by
  unfold rowsB at h ⊢
  rcases hr : rows a with _ | ys
  · rw [hr] at h; cases h
  · rw [hr] at h
    cases h
    rw [rows_append a b hr]
    cases rows b <;> simp
/-- What Items tells. -/
def ItemsTold (w' : World) (e : Ending) : Option (List ByteArray) → Prop
  | none => e = .returned (.tuple #[.slice none 0 0, .int .i64 2])
  | some xs => ∃ v, e = .returned (.tuple #[v, .int .i64 0]) ∧ Sl w' v xs
theorem ritems_any (s : ByteArray) (w : World) (hs : s.size ≤ 1000) (hl : Laid2 w) :
    Calls Tryd.prog 13 #[.string s] w fun e w' => Below w.heap.size w w' ∧ ItemsTold w' e (rowsB s) := by
  unfold rowsB
  refine (items_any s w (by omega) hl).mono ?_
  rintro e w' ⟨b, ⟨h, rfl⟩ | ⟨h, v, rfl, hv⟩⟩
  · refine ⟨b, ?_⟩
    rcases hr : rows s with _ | xs
    · rfl
    · exact absurd (by rw [rows_some hr]; exact fine_map _) h
  · refine ⟨b, ?_⟩
    rcases hr : rows s with _ | xs
    · exact absurd h (rows_none hr)
    · rw [rows_some hr] at hv
      have e : strs (xs.map fun l => (Nib.bs l, none)) = (xs.map Nib.bs).map Value.string := by simp [strs]
      rw [e, show (xs.map fun l => (Nib.bs l, (none : Option Nat))).length = (xs.map Nib.bs).length by simp] at hv
      exact ⟨v, rfl, Sl.of_own hv⟩
theorem items_shape {w' : World} {e : Ending} {o : Option (List ByteArray)} (h : ItemsTold w' e o) : ∃ v n, e = .returned (.tuple #[v, .int .i64 n]) := by
  cases o with
  | none => exact ⟨_, _, h⟩
  | some xs => obtain ⟨v, h, _⟩ := h; exact ⟨_, _, h⟩
end Go.Proofs.YtgeonbkoihegnaaDoor

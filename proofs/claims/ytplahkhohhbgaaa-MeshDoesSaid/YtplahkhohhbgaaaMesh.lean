/-
  Package mesh: frames in a row behind a pointer: New, Send, at.
-/
import Derived.Test.YtplahkhohhbgaaaFar
import Derived.Deep.RegionLaw
import Derived.Laws.CopyOwn
import Derived.StillTailTactics
namespace Go.Proofs.Ytplahkhohhbgaaa
open Go.RowKit
set_option linter.unusedVariables false
set_option linter.unusedSimpArgs false
/-- A mesh at block g: its room, its row, and its frames. -/
def Mh (B g : Nat) (r : Int) (v : Value) (xs : List ByteArray) (w : World) : Prop :=
  Blk w g 89 #[.int .i64 r, v] ∧ w.ownsRow B 9 1 v xs.length (xs.map Value.string) ∧ v.ownBlock ≠ some g
/-- The blocks that a mesh may turn. -/
def Own (g : Nat) (v : Value) (k : Nat) : Prop := k = g ∨ v.ownBlock = some k
/-- The row is where it was, or new. -/
def Fresh (w : World) (v v' : Value) : Prop := v'.ownBlock = v.ownBlock ∨ ∀ i, v'.ownBlock = some i → w.heap.size ≤ i
theorem Mh.drewN {B g : Nat} {r : Int} {v : Value} {xs : List ByteArray} {w : World} (h : Mh B g r v xs w) (n : Nat) : Mh B g r v xs (w.drewN n) := h
theorem Mh.far {B g : Nat} {r : Int} {v : Value} {xs : List ByteArray} {w w' : World} (h : Mh B g r v xs w) {S : Nat → Prop} (k : Far S w w') (hS : ∀ i, Own g v i → ¬ S i) : Mh B g r v xs w' :=
  ⟨h.1.far k (hS g (.inl rfl)), own_far h.2.1 k (fun i hi => hS i (.inr hi)), h.2.2⟩
theorem Mh.below {B g : Nat} {r : Int} {v : Value} {xs : List ByteArray} {w w' : World} (h : Mh B g r v xs w) (k : Below w.heap.size w w') : Mh B g r v xs w' :=
  h.far (S := fun _ => False) ⟨k.os, k.tape, k.output, k.size, fun i hi _ => k.block i hi⟩ (fun _ _ h => h)
theorem Mh.shape {B g : Nat} {r : Int} {v : Value} {xs : List ByteArray} {w : World} (h : Mh B g r v xs w) : ∃ A c, v = .slice A xs.length c ∧ xs.length ≤ c ∧ c ≤ maxLen ∧ (xs ≠ [] → ∃ k, A = some ⟨k, 0, none⟩) := by
  rcases h.2.1.2 with ⟨rfl, h2⟩ | ⟨k, cap, cur, rfl, hb, hg, hle, hcap, _⟩
  · obtain rfl := List.length_eq_zero_iff.1 h2
    exact ⟨none, 0, rfl, Nat.le_refl _, by simp [maxLen], fun h => absurd rfl h⟩
  · exact ⟨_, cap, rfl, hle, hcap, fun _ => ⟨k, rfl⟩⟩
theorem minmax (n : Int) : min (max n 1) 64 = if n ≤ 1 then 1 else if 64 ≤ n then 64 else n := by omega
/-- The room that there is. -/
def roomOf (n : Int) : Int := min (max n 1) 64
theorem roomOf_bd (n : Int) : 1 ≤ roomOf n ∧ roomOf n ≤ 64 := by unfold roomOf; omega
theorem alloc_int {w : World} {a b : Int} (h : a = b) : w.alloc (.cells #[.int .i64 a, .slice none 0 0] 89) = w.alloc (.cells #[.int .i64 b, .slice none 0 0] 89) := by rw [h]
set_option maxHeartbeats 400000 in
theorem mnew_any (n : Int) (w : World) :
    Calls Try.prog 31 #[.int .i64 n] w fun e w' => e = .returned (.pointer (some ⟨w.heap.size, 0, none⟩)) ∧ w' = w.alloc (.cells #[.int .i64 (roomOf n), .slice none 0 0] 89) := by
  go_enter Try.func31, Try.ntmps31
  go_wp2_with fail
  all_goals (go_ret; exact ⟨rfl, alloc_int (by unfold roomOf; omega)⟩)
set_option maxHeartbeats 1000000 in
theorem msend_no (B g : Nat) (v : Value) (xs : List ByteArray) (s : ByteArray) (w : World) (hM : Mh B g (xs.length : Int) v xs w) :
    Calls Try.prog 39 #[.pointer (some ⟨g, 0, none⟩), .string s] w fun e w' => e = .returned (.bool false) ∧ ∃ n, w' = w.drewN n := by
  obtain ⟨A, c, rfl, _, _, _⟩ := hM.shape
  have c0 : w.cell? ⟨g, 0, none⟩ = some (.int .i64 (xs.length : Int)) := by rw [hM.1.cell]; rfl
  have c1 : w.cell? ⟨g, 1, none⟩ = some (.slice A xs.length c) := by rw [hM.1.cell]; rfl
  clear hM
  go_enter Try.func39, Try.ntmps39
  go_wp2_with fail
  go_quiet (fail)
  go_wp2_with fail
  go_ret
  exact ⟨rfl, _, rfl⟩
set_option maxHeartbeats 1000000 in
theorem msend_yes (B g : Nat) (r : Int) (v : Value) (xs : List ByteArray) (s : ByteArray) (w : World) (hM : Mh B g r v xs w) (hr : (xs.length : Int) ≠ r) (hB : B ≤ w.heap.size) (hl : xs.length ≤ 1000) :
    Calls Try.prog 39 #[.pointer (some ⟨g, 0, none⟩), .string s] w fun e w' => e = .returned (.bool true) ∧ ∃ v', Mh B g r v' (xs ++ [s]) w' ∧ Far (Own g v) w w' ∧ Fresh w v v' := by
  obtain ⟨A, c, rfl, _, _, _⟩ := hM.shape
  have c0 : w.cell? ⟨g, 0, none⟩ = some (.int .i64 r) := by rw [hM.1.cell]; rfl
  have c1 : w.cell? ⟨g, 1, none⟩ = some (.slice A xs.length c) := by rw [hM.1.cell]; rfl
  have hd : ((xs.length : Int) == r) = false := by simp [hr]
  have HM := Lib.hid hM
  clear hM hr
  go_enter Try.func39, Try.ntmps39
  go_wp2_with fail
  go_quiet (fail)
  go_wp2_with (at_builtin; refine wpList_append_strs rfl _ _ rfl rfl B (.slice A xs.length c) _ xs [s] rfl rfl (World.ownsRow.alloc (own_drewN HM.out.2.1 nq) _) (one_lit _ s) (by simp; omega) (by simp; omega) ?_; intro v5 w5 own5 gr5 fr5; obtain ⟨A5, k5, rfl, _, _⟩ := Sl.of_own own5; have bk := ((HM.out.1.drewN nq).alloc (.cells #[.string s] 9)).grown gr5 HM.out.2.2; have c5 := bk.cell 1; have f5 := bk.frozen 1; simp only [List.getElem?_toArray, List.getElem?_cons_succ, List.getElem?_cons_zero] at c5; have BK := Lib.hid bk; have OW := Lib.hid own5; have GR := Lib.hid gr5; have FR := Lib.hid fr5; clear bk own5 gr5 fr5)
  go_ret
  have hlt := HM.out.1.lt
  obtain ⟨v5, hv5⟩ : ∃ v5, v5 = Value.slice A5 (xs ++ [s]).length k5 := ⟨_, rfl⟩
  rw [List.length_append, List.length_singleton] at hv5
  have ow : w5.ownsRow B 9 1 v5 (xs ++ [s]).length ((xs ++ [s]).map Value.string) := by rw [hv5]; simpa using OW.out
  have fr : v5.ownBlock = (Value.slice A xs.length c).ownBlock ∨ v5.ownBlock = some ((w.drewN nq).alloc (.cells #[.string s] 9)).heap.size := by rw [hv5]; simpa using FR.out
  have hne : v5.ownBlock ≠ some g := by
    rcases fr with h | h
    · rw [h]; exact HM.out.2.2
    · rw [h]; simp; omega
  have F1 : Far (Own g (.slice A xs.length c)) w w5 := (((Far.refl _ w).drewN nq).alloc _).grown GR.out (fun i _ h => .inr h)
  rw [← hv5]
  refine ⟨rfl, v5, ⟨by have := BK.out.set 1 v5; simpa using this, own_far ow ((Far.refl (fun k => k = g) w5).setCell (p := ⟨g, 1, none⟩) (fun _ => rfl) v5) (fun i hi e => hne (by rw [hi, e])), hne⟩, F1.setCell (p := ⟨g, 1, none⟩) (fun _ => .inl rfl) v5, ?_⟩
  rcases fr with h | h
  · exact .inl h
  · exact .inr (fun i hi => by rw [h] at hi; cases hi; simp)
set_option maxHeartbeats 400000 in
theorem mat_no (B g : Nat) (r : Int) (v : Value) (xs : List ByteArray) (n : Int) (F : Value) (w : World) (hM : Mh B g r v xs w) (hn : n < 0 ∨ (xs.length : Int) ≤ n) :
    Calls Try.prog 57 #[.pointer (some ⟨g, 0, none⟩), .int .i64 n, F] w fun e w' => e = .returned (.bool false) ∧ w = w' := by
  obtain ⟨A, c, rfl, _, _, _⟩ := hM.shape
  have c1 : w.cell? ⟨g, 1, none⟩ = some (.slice A xs.length c) := by rw [hM.1.cell]; rfl
  clear hM
  by_cases h0 : n < 0
  · clear hn
    go_enter Try.func57, Try.ntmps57
    go_wp2_with fail
    go_ret
    exact ⟨rfl, rfl⟩
  · have h1 : (xs.length : Int) ≤ n := hn.resolve_left h0
    have h2 : 0 ≤ n := by omega
    clear hn h0
    go_enter Try.func57, Try.ntmps57
    go_wp2_with fail
    go_ret
    exact ⟨rfl, rfl⟩
end Go.Proofs.Ytplahkhohhbgaaa

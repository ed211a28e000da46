/-
  Package mesh: Move, All, Count.
-/
import Derived.Test.YtplahkhohhbgaaaMeshAt
namespace Go.Proofs.Ytplahkhohhbgaaa
open Go.RowKit
set_option linter.unusedVariables false
set_option linter.unusedSimpArgs false
theorem Step.trans {B g : Nat} {r : Int} {v : Value} {xs ys zs : List ByteArray} {w w1 w2 : World} {v1 : Value} (F1 : Far (Own g v) w w1) (O1 : Fresh w v v1) (h : Step B g r v1 ys w1 w2 zs) : Step B g r v xs w w2 zs := by
  obtain ⟨v2, hM, F2, O2⟩ := h
  refine ⟨v2, hM, F1.trans F2 ?_, ?_⟩
  · rintro i hi (h | h)
    · exact .inl h
    · rcases O1 with e | e
      · exact .inr (by rw [← e]; exact h)
      · have := e i h; omega
  · rcases O2 with e | e
    · rcases O1 with e1 | e1
      · exact .inl (e.trans e1)
      · exact .inr (fun i hi => e1 i (by rw [← e]; exact hi))
    · exact .inr (fun i hi => Nat.le_trans F1.size (e i hi))
/-- Three boxes of a closure, apart from the mesh. -/
def Caps (g : Nat) (v : Value) (n to : Int) (k1 k2 k3 : Nat) (w : World) : Prop :=
  (Blk w k1 55 #[.pointer (some ⟨g, 0, none⟩)] ∧ Blk w k2 3 #[.int .i64 n] ∧ Blk w k3 3 #[.int .i64 to]) ∧ (¬ Own g v k1 ∧ ¬ Own g v k2 ∧ ¬ Own g v k3)
set_option maxHeartbeats 1000000 in
theorem move2_any (B g : Nat) (r : Int) (v : Value) (xs : List ByteArray) (n to : Nat) (x : ByteArray) (k1 k2 k3 : Nat) (w : World) (hM : Mh B g r v xs w) (hn : n < xs.length) (ht : to < xs.length) (hl : xs.length ≤ 1000) (hB : B ≤ w.heap.size)
    (hC : Caps g v n to k1 k2 k3 w) :
    Calls Try.prog 59 #[.string x, .pointer (some ⟨k1, 0, none⟩), .pointer (some ⟨k2, 0, none⟩), .pointer (some ⟨k3, 0, none⟩)] w fun e w' => e = .returned (.bool true) ∧ Step B g r v xs w w' (laid (xs.eraseIdx n) to x) := by
  have c1 : w.cell? ⟨k1, 0, none⟩ = some (.pointer (some ⟨g, 0, none⟩)) := by rw [hC.1.1.cell]; rfl
  have c2 : w.cell? ⟨k2, 0, none⟩ = some (.int .i64 (n : Int)) := by rw [hC.1.2.1.cell]; rfl
  have H := Lib.hid (mcut_any B g r v xs n w hM hn hl)
  have HC := Lib.hid hC
  have HN := Lib.hid hn
  have HT := Lib.hid ht
  clear hM hC hn ht
  go_enter Try.func59, Try.ntmps59
  go_wp2_with fail
  refine (H.out).mono ?_
  rintro e w1 ⟨rfl, v1, hM1, F1, ho⟩
  have he : (xs.eraseIdx n).length = xs.length - 1 := List.length_eraseIdx_of_lt HN.out
  have b1 := HC.out.1.1.far F1 HC.out.2.1
  have b3 := HC.out.1.2.2.far F1 HC.out.2.2.2
  have d1 : w1.cell? ⟨k1, 0, none⟩ = some (.pointer (some ⟨g, 0, none⟩)) := by rw [b1.cell]; rfl
  have d3 : w1.cell? ⟨k3, 0, none⟩ = some (.int .i64 (to : Int)) := by rw [b3.cell]; rfl
  have H2 := Lib.hid (mlay_any B g r v1 (xs.eraseIdx n) to x w1 hM1 (by have := HT.out; omega) (Nat.le_trans hB F1.size) (by omega))
  have HF1 := Lib.hid F1
  clear hM1 F1 b1 b3 he c1 c2
  go_wp2_with fail
  refine (H2.out).mono ?_
  rintro e w2 ⟨rfl, hS⟩
  go_wp2_with fail
  go_ret
  exact ⟨rfl, Step.trans (ys := xs) HF1.out (.inl ho) hS⟩
set_option maxHeartbeats 1000000 in
theorem move1_any (R : World → Prop) (b : Bool) (g : Nat) (n : Int) (x : ByteArray) (k1 k2 k3 : Nat) (w : World) (c1 : w.cell? ⟨k1, 0, none⟩ = some (.pointer (some ⟨g, 0, none⟩))) (c2 : w.cell? ⟨k2, 0, none⟩ = some (.int .i64 n))
    (H : Calls Try.prog 57 #[.pointer (some ⟨g, 0, none⟩), .int .i64 n, .func (.func 59) #[] #[.pointer (some ⟨k1, 0, none⟩), .pointer (some ⟨k2, 0, none⟩), .pointer (some ⟨k3, 0, none⟩)]] w fun e w' => e = .returned (.bool b) ∧ R w') :
    Calls Try.prog 58 #[.string x, .pointer (some ⟨k1, 0, none⟩), .pointer (some ⟨k2, 0, none⟩), .pointer (some ⟨k3, 0, none⟩)] w fun e w' => e = .returned (.bool b) ∧ R w' := by
  have H := Lib.hid H
  go_enter Try.func58, Try.ntmps58
  go_wp2_with fail
  refine (H.out).mono ?_
  rintro e w1 ⟨rfl, hS⟩
  go_wp2_with fail
  go_ret
  exact ⟨rfl, hS⟩
set_option maxHeartbeats 1000000 in
theorem move_any (R : World → Prop) (b : Bool) (B g : Nat) (r : Int) (v : Value) (xs : List ByteArray) (n to : Int) (w : World) (hM : Mh B g r v xs w)
    (H : ∀ W, Far (fun _ => False) w W → Caps g v n to w.heap.size (w.heap.size + 1) (w.heap.size + 1 + 1) W → Mh B g r v xs W →
      Calls Try.prog 57 #[.pointer (some ⟨g, 0, none⟩), .int .i64 to, .func (.func 58) #[] #[.pointer (some ⟨w.heap.size, 0, none⟩), .pointer (some ⟨w.heap.size + 1, 0, none⟩), .pointer (some ⟨w.heap.size + 1 + 1, 0, none⟩)]] W fun e w' => e = .returned (.bool b) ∧ R w') :
    Calls Try.prog 40 #[.pointer (some ⟨g, 0, none⟩), .int .i64 n, .int .i64 to] w fun e w' => e = .returned (.bool b) ∧ R w' := by
  have H := Lib.hid H
  have HM := Lib.hid hM
  have HO := Lib.hid hM.own_lt
  clear hM
  go_enter Try.func40, Try.ntmps40
  go_wp2_with fail
  obtain ⟨W, hW⟩ : ∃ W, W = ((w.alloc (.cells #[.pointer (some ⟨g, 0, none⟩)] 55)).alloc (.cells #[.int .i64 n] 3)).alloc (.cells #[.int .i64 to] 3) := ⟨_, rfl⟩
  rw [← hW]
  have hb2 : Blk W w.heap.size 55 #[.pointer (some ⟨g, 0, none⟩)] := by rw [hW]; exact ((Blk.new _ _ _).alloc _).alloc _
  have hb3 : Blk W (w.heap.size + 1) 3 #[.int .i64 n] := by rw [hW]; exact (by simpa using Blk.new (w.alloc (.cells #[.pointer (some ⟨g, 0, none⟩)] 55)) 3 #[.int .i64 n] : Blk _ (w.heap.size + 1) 3 _).alloc _
  have hb4 : Blk W (w.heap.size + 1 + 1) 3 #[.int .i64 to] := by rw [hW]; simpa using Blk.new ((w.alloc (.cells #[.pointer (some ⟨g, 0, none⟩)] 55)).alloc (.cells #[.int .i64 n] 3)) 3 #[.int .i64 to]
  have F0 : Far (fun _ => False) w W := by rw [hW]; exact (((Far.refl _ w).alloc _).alloc _).alloc _
  clear hW
  have hno : ∀ i, w.heap.size ≤ i → ¬ Own g v i := fun i hi h => by have := HO.out i h; omega
  have hM2 := HM.out.far F0 (fun _ _ h => h)
  have HH := Lib.hid (H.out W F0 ⟨⟨hb2, hb3, hb4⟩, hno _ (by omega), hno _ (by omega), hno _ (by omega)⟩ hM2)
  clear hb2 hb3 hb4 F0 hno hM2
  refine (HH.out).mono ?_
  rintro e w1 ⟨rfl, hS⟩
  go_wp2_with fail
  go_ret
  exact ⟨rfl, hS⟩
theorem mmove_yes (B g : Nat) (r : Int) (v : Value) (xs : List ByteArray) (n to : Nat) (x : ByteArray) (w : World) (hM : Mh B g r v xs w) (hx : xs[n]? = some x) (ht : to < xs.length) (hl : xs.length ≤ 1000) (hB : B ≤ w.heap.size) :
    Calls Try.prog 40 #[.pointer (some ⟨g, 0, none⟩), .int .i64 (n : Int), .int .i64 (to : Int)] w fun e w' => e = .returned (.bool true) ∧ Step B g r v xs w w' (laid (xs.eraseIdx n) to x) := by
  have hn : n < xs.length := (List.getElem?_eq_some_iff.1 hx).1
  refine move_any (fun w' => Step B g r v xs w w' (laid (xs.eraseIdx n) to x)) true B g r v xs n to w hM ?_
  intro W F0 hC hM2
  refine mat_cap _ _ _ _ _ _ B g r v xs to xs[to] W hM2 (List.getElem?_eq_getElem ht) (enters_move _ _) ?_
  refine move1_any _ true g n _ _ _ _ W (by rw [hC.1.1.cell]; rfl) (by rw [hC.1.2.1.cell]; rfl) ?_
  refine mat_cap _ _ _ _ _ _ B g r v xs n x W hM2 hx (enters_move1 _ _) ?_
  refine (move2_any B g r v xs n to x _ _ _ W hM2 hn ht hl (Nat.le_trans hB F0.size) hC).mono ?_
  rintro e w1 ⟨rfl, hS⟩
  exact ⟨rfl, Step.trans (F0.mono (fun _ _ h => h.elim)) (.inl rfl) hS⟩
theorem mmove_no (B g : Nat) (r : Int) (v : Value) (xs : List ByteArray) (n to : Int) (w : World) (hM : Mh B g r v xs w) (hn : (n < 0 ∨ (xs.length : Int) ≤ n) ∨ (to < 0 ∨ (xs.length : Int) ≤ to)) :
    Calls Try.prog 40 #[.pointer (some ⟨g, 0, none⟩), .int .i64 n, .int .i64 to] w fun e w' => e = .returned (.bool false) ∧ Step B g r v xs w w' xs := by
  refine move_any (fun w' => Step B g r v xs w w' xs) false B g r v xs n to w hM ?_
  intro W F0 hC hM2
  have hS : Step B g r v xs w W xs := Step.trans (F0.mono (fun _ _ h => h.elim)) (.inl rfl) (step_refl hM2) (xs := xs)
  by_cases ht : to < 0 ∨ (xs.length : Int) ≤ to
  · refine (mat_no B g r v xs to _ W hM2 ht).mono ?_
    rintro e w1 ⟨rfl, rfl⟩
    exact ⟨rfl, hS⟩
  · obtain ⟨k, rfl⟩ : ∃ k : Nat, to = k := ⟨to.toNat, by omega⟩
    have hk : k < xs.length := by omega
    refine mat_cap _ _ _ _ _ _ B g r v xs k xs[k] W hM2 (List.getElem?_eq_getElem hk) (enters_move _ _) ?_
    refine move1_any _ false g n _ _ _ _ W (by rw [hC.1.1.cell]; rfl) (by rw [hC.1.2.1.cell]; rfl) ?_
    refine (mat_no B g r v xs n _ W hM2 (hn.resolve_right ht)).mono ?_
    rintro e w1 ⟨rfl, rfl⟩
    exact ⟨rfl, hS⟩
end Go.Proofs.Ytplahkhohhbgaaa

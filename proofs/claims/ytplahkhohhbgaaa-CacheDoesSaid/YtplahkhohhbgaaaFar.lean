/-
  Worlds that differ at some blocks alone; a slice that a struct holds. For state behind a pointer.
-/
import Derived.Test.YtplahkhohhbgaaaSame
namespace Go.Proofs.Ytplahkhohhbgaaa
open Go.RowKit
set_option linter.unusedVariables false
set_option linter.unusedSimpArgs false
/-- Only blocks of S, and new ones, may have turned. -/
structure Far (S : Nat → Prop) (w w' : World) : Prop where
  os : w'.os = w.os
  tape : w'.tape = w.tape
  output : w'.output = w.output
  size : w.heap.size ≤ w'.heap.size
  block : ∀ k, k < w.heap.size → ¬ S k → w'.heap[k]? = w.heap[k]?
section
variable {S S' : Nat → Prop} {a b c w w' : World}
theorem Far.refl (S : Nat → Prop) (w : World) : Far S w w := ⟨rfl, rfl, rfl, Nat.le_refl _, fun _ _ _ => rfl⟩
theorem Far.trans (h : Far S a b) (k : Far S' b c) (hS : ∀ i, i < a.heap.size → S' i → S i) : Far S a c :=
  ⟨k.os.trans h.os, k.tape.trans h.tape, k.output.trans h.output, Nat.le_trans h.size k.size, fun i hi hn => (k.block i (Nat.lt_of_lt_of_le hi h.size) (fun e => hn (hS i hi e))).trans (h.block i hi hn)⟩
theorem Far.mono (h : Far S a b) (hS : ∀ i, i < a.heap.size → S i → S' i) : Far S' a b :=
  ⟨h.os, h.tape, h.output, h.size, fun i hi hn => h.block i hi (fun e => hn (hS i hi e))⟩
theorem Far.drew (h : Far S a b) : Far S a b.drew := ⟨h.os, h.tape, h.output, h.size, h.block⟩
theorem Far.drewN (h : Far S a b) (n : Nat) : Far S a (b.drewN n) := by
  have : Below b.heap.size b (b.drewN n) := below_drewN (Below.refl _ _) n
  exact ⟨this.os.trans h.os, this.tape.trans h.tape, this.output.trans h.output, Nat.le_trans h.size this.size, fun i hi hn => (this.block i (Nat.lt_of_lt_of_le hi h.size)).trans (h.block i hi hn)⟩
theorem Far.alloc (h : Far S a b) (o : Obj) : Far S a (b.alloc o) :=
  ⟨h.os, h.tape, h.output, by have := h.size; simp; omega, fun i hi hn => (Below.heap_alloc b o i (Nat.lt_of_lt_of_le hi h.size)).trans (h.block i hi hn)⟩
theorem Far.setCell (h : Far S a b) {p : Addr} (hp : p.block < a.heap.size → S p.block) (v : Value) : Far S a (b.setCell p v) :=
  ⟨h.os, h.tape, h.output, by have := h.size; simp [World.setCell]; exact this, fun i hi hn => (Below.heap_setCell b p v i (fun e => hn (by subst e; exact hp hi))).trans (h.block i hi hn)⟩
theorem Far.setRow (h : Far S a b) {g : Nat} (hg : g < a.heap.size → S g) (cs : Array Value) : Far S a (b.setRow g cs) :=
  ⟨h.os, h.tape, h.output, by have := h.size; simpa [World.setRow] using this, fun i hi hn => by
    have : (b.setRow g cs).heap[i]? = b.heap[i]? := by
      simp only [World.setRow, Array.getElem?_modify]
      rw [if_neg (fun e => hn (by subst e; exact hg hi))]
    exact this.trans (h.block i hi hn)⟩
theorem Far.grown (h : Far S a b) {r : Option Nat} (k : b.grownBy c r) (hr : ∀ i, i < a.heap.size → r = some i → S i) : Far S a c :=
  ⟨k.os.trans h.os, k.tape.trans h.tape, k.output.trans h.output, Nat.le_trans h.size k.size, fun i hi hn => (k.block i (Nat.lt_of_lt_of_le hi h.size) (fun e => hn (hr i hi e.symm))).trans (h.block i hi hn)⟩
theorem Far.call (h : Far S a b) (k : Below b.heap.size b c) : Far S a c :=
  ⟨k.os.trans h.os, k.tape.trans h.tape, k.output.trans h.output, Nat.le_trans h.size k.size, fun i hi hn => (k.block i (Nat.lt_of_lt_of_le hi h.size)).trans (h.block i hi hn)⟩
theorem Far.below (h : Far S a b) {B : Nat} (hB : B ≤ a.heap.size) (hS : ∀ i, S i → B ≤ i) : Below B a b :=
  ⟨h.os, h.tape, h.output, h.size, fun i hi => h.block i (Nat.lt_of_lt_of_le hi hB) (fun e => by have := hS i e; omega)⟩
theorem Far.bl {B : Nat} (h : Bl B a b) (k : Far S b c) (hS : ∀ i, S i → B ≤ i) : Bl B a c := ⟨h.1.trans (k.below h.2 hS), Nat.le_trans h.2 k.size⟩
end
/-- Block g is just these cells. -/
def Blk (w : World) (g : Nat) (t : TypeId) (cs : Array Value) : Prop := w.heap[g]? = some (.cells cs t)
section
variable {w w' : World} {g : Nat} {t : TypeId} {cs : Array Value}
theorem Blk.lt (h : Blk w g t cs) : g < w.heap.size := (Array.getElem?_eq_some_iff.1 h).1
theorem Blk.cell (h : Blk w g t cs) (i : Nat) : w.cell? ⟨g, i, none⟩ = cs[i]? := by
  simp [World.cell?, show w.heap[g]? = _ from h]
theorem Blk.frozen (h : Blk w g t cs) (i : Nat) : w.frozen? ⟨g, i, none⟩ = false := by simp [World.frozen?, show w.heap[g]? = _ from h]
theorem Blk.new (w : World) (t : TypeId) (cs : Array Value) : Blk (w.alloc (.cells cs t)) w.heap.size t cs := by
  show (w.heap.push _)[w.heap.size]? = some _
  simp
theorem Blk.far {S : Nat → Prop} (h : Blk w g t cs) (k : Far S w w') (hg : ¬ S g) : Blk w' g t cs := (k.block g h.lt hg).trans h
theorem Blk.below (h : Blk w g t cs) (k : Below w.heap.size w w') : Blk w' g t cs := (k.block g h.lt).trans h
theorem Blk.drewN (h : Blk w g t cs) (n : Nat) : Blk (w.drewN n) g t cs := h
theorem Blk.set (h : Blk w g t cs) (i : Nat) (u : Value) : Blk (w.setCell ⟨g, i, none⟩ u) g t (cs.setIfInBounds i u) := by
  unfold Blk at *
  simp [World.setCell, Array.getElem?_modify, h]
theorem Blk.alloc (h : Blk w g t cs) (o : Obj) : Blk (w.alloc o) g t cs := (Below.heap_alloc w o g h.lt).trans h
theorem Blk.other (h : Blk w g t cs) {p : Addr} (hp : g ≠ p.block) (u : Value) : Blk (w.setCell p u) g t cs := (Below.heap_setCell w p u g hp).trans h
theorem Blk.grown (h : Blk w g t cs) {r : Option Nat} (k : w.grownBy w' r) (hr : r ≠ some g) : Blk w' g t cs := (k.block g h.lt (fun e => hr e.symm)).trans h
end
theorem Sl.far {S : Nat → Prop} {w w' : World} {v : Value} {xs : List ByteArray} (h : Sl w v xs) (k : Far S w w') (hv : ∀ i, v.ownBlock = some i → ¬ S i) : Sl w' v xs := by
  obtain ⟨A, c, rfl, h2, h3⟩ := h
  refine ⟨A, c, rfl, ?_, h3⟩
  rcases h2 with h | ⟨b, o, rfl, h4, h5⟩
  · exact .inl h
  · exact .inr ⟨b, o, rfl, Nat.lt_of_lt_of_le h4 k.size, fun j x hx => (World.cell?_of_block (w := w) (k.block b h4 (hv b rfl))).trans (h5 j x hx)⟩
theorem Sl.lt {w : World} {v : Value} {xs : List ByteArray} (h : Sl w v xs) (hx : xs ≠ []) : ∀ i, v.ownBlock = some i → i < w.heap.size := by
  obtain ⟨A, c, rfl, h2, h3⟩ := h
  intro i hi
  rcases h2 with h | ⟨b, o, rfl, h4, h5⟩
  · exact absurd h hx
  · cases hi
    exact h4
theorem own_far {S : Nat → Prop} {w w' : World} {base : Nat} {e : TypeId} {size n : Nat} {v : Value} {xs : List Value} (h : w.ownsRow base e size v n xs) (k : Far S w w') (hv : ∀ i, v.ownBlock = some i → ¬ S i) : w'.ownsRow base e size v n xs := by
  refine ⟨h.1, h.2.imp id ?_⟩
  rintro ⟨g, cap, cur, rfl, h2, h3, h4⟩
  exact ⟨g, cap, cur, rfl, h2, (k.block g (Array.getElem?_eq_some_iff.1 h3).1 (hv g rfl)).trans h3, h4⟩
/-- A row that has something lies in a block. -/
theorem own_some {w : World} {base : Nat} {v : Value} {xs : List ByteArray} (h : w.ownsRow base 9 1 v xs.length (xs.map Value.string)) (hx : xs ≠ []) :
    ∃ (k cap : Nat) (cur : List Value), v = .slice (some ⟨k, 0, none⟩) xs.length cap ∧ base ≤ k ∧ w.heap[k]? = some (.cells cur.toArray 9) ∧ xs.length ≤ cap ∧ cap ≤ maxLen ∧ cur.length = cap ∧ cur.take xs.length = xs.map Value.string := by
  rcases h.2 with ⟨_, h2⟩ | ⟨k, cap, cur, rfl, hb, hg, hle, hcap, hs, ht⟩
  · exact absurd (List.length_eq_zero_iff.1 h2) hx
  · exact ⟨k, cap, cur.toList, rfl, hb, by rw [Array.toArray_toList]; exact hg, hle, hcap, by simpa using hs, by rw [Nat.mul_one] at ht; exact ht⟩
theorem elemStrs : Try.prog.underlying 44 = some (.slice (Try.prog.elem 44)) := by kernel_rfl
theorem sizeStrs (W : World) : (sizeOf (Try.prog.elem 44)).run Try.prog W = .ok 1 W := by kernel_rfl
/-- s[l:] of strings. -/
theorem slice_low (b o m cap l : Nat) (hl : l ≤ m) (W : World) : (Instr.slice 44 (.slice (some ⟨b, o, none⟩) m cap) (some (.int .i64 (l : Int))) none none).run Try.prog W = .ok (.slice (if cap = l then some ⟨b, o, none⟩ else some ⟨b, o + l, none⟩) (m - l) (cap - l)) W := by
  rw [run_slice_l W 44 (some ⟨b, o, none⟩) m cap elemStrs .i64 (l : Int) (by omega) (by omega), sizeStrs]
  simp only [Result.andThen, sliced, Int.toNat_natCast, Nat.mul_one, Option.map_some, Addr.add_mid]
/-- s[:h] of strings. -/
theorem slice_high (b o m cap h : Nat) (hh : h ≤ cap) (hc : 0 < cap) (W : World) : (Instr.slice 44 (.slice (some ⟨b, o, none⟩) m cap) none (some (.int .i64 (h : Int))) none).run Try.prog W = .ok (.slice (some ⟨b, o, none⟩) h cap) W := by
  rw [run_slice_h W 44 (some ⟨b, o, none⟩) m cap elemStrs .i64 (h : Int) (by omega) (by omega), sizeStrs]
  simp [Result.andThen, sliced, Addr.add]
theorem own_drewN {w : World} {base : Nat} {e : TypeId} {size n : Nat} {v : Value} {xs : List Value} (h : w.ownsRow base e size v n xs) (q : Nat) : (w.drewN q).ownsRow base e size v n xs := own_far h ((Far.refl (fun _ => False) w).drewN q) (fun _ _ h => h)
end Go.Proofs.Ytplahkhohhbgaaa

/-
  Merged: Same, Far.
-/
import Derived.Test.YtlbebdkockejcaaGreatDoorGaRlp
import Derived.Maps.AppendAt
import Derived.OwnWalk
namespace Go.Proofs.YtlbebdkockejcaaGreatDoor
open Go.RowKit
set_option linter.unusedVariables false
set_option linter.unusedSimpArgs false
/-- A slice's address, where xs lie. -/
def Strs (w : World) (A : Option Addr) (xs : List ByteArray) : Prop := xs = [] ∨ ∃ b o, A = some ⟨b, o, none⟩ ∧ b < w.heap.size ∧ ∀ j x, xs[j]? = some x → w.cell? ⟨b, o + j, none⟩ = some (.string x)
theorem Strs.nil (w : World) (A : Option Addr) : Strs w A [] := .inl rfl
theorem Strs.below {w w' : World} {A : Option Addr} {xs : List ByteArray} (h : Strs w A xs) (k : Below w.heap.size w w') : Strs w' A xs := by
  rcases h with h | ⟨b, o, h1, h2, h3⟩
  · exact .inl h
  · exact .inr ⟨b, o, h1, Nat.lt_of_lt_of_le h2 k.size, fun j x hx => (k.cell (p := ⟨b, o + j, none⟩) h2).trans (h3 j x hx)⟩
theorem Strs.drewN {w : World} {A : Option Addr} {xs : List ByteArray} (h : Strs w A xs) (n : Nat) : Strs (w.drewN n) A xs := h
theorem Strs.at_ {w : World} {A : Option Addr} {xs : List ByteArray} (h : Strs w A xs) (k : Nat) (hk : k < xs.length) : ∃ b o, A = some ⟨b, o, none⟩ ∧ b < w.heap.size ∧ w.cell? ⟨b, o + k, none⟩ = some (.string xs[k]) := by
  rcases h with h | ⟨b, o, h1, h2, h3⟩
  · subst h; simp at hk
  · exact ⟨b, o, h1, h2, h3 k _ (List.getElem?_eq_getElem hk)⟩
theorem Strs.of_own {w : World} {base : Nat} {v : Value} {xs : List ByteArray} (h : w.ownsRow base 9 1 v xs.length (xs.map Value.string)) : ∃ A c, v = .slice A xs.length c ∧ xs.length ≤ c ∧ Strs w A xs := by
  rcases xs with _ | ⟨x, r⟩
  · obtain ⟨a, c, rfl⟩ : ∃ a c, v = .slice a 0 c := by
      rcases h.2 with ⟨rfl, h2⟩ | ⟨g, cap, cur, rfl, _⟩
      · exact ⟨none, 0, rfl⟩
      · exact ⟨_, cap, rfl⟩
    exact ⟨a, c, rfl, Nat.zero_le _, .inl rfl⟩
  · rcases h.2 with ⟨_, h2⟩ | ⟨g, cap, cur, rfl, hb, hg, hle, hcap, hs, ht⟩
    · simp at h2
    · refine ⟨_, _, rfl, hle, .inr ⟨g, 0, rfl, (Array.getElem?_eq_some_iff.1 hg).1, fun j y hy => ?_⟩⟩
      have hj : j < (x :: r).length := (List.getElem?_eq_some_iff.1 hy).1
      have h1 : (List.take ((x :: r).length * 1) cur.toList)[j]? = some (.string y) := by rw [ht, List.getElem?_map, hy]; rfl
      rw [List.getElem?_take_of_lt (by omega)] at h1
      simp only [World.cell?, hg, Nat.zero_add]
      simpa using h1
/-- A slice value, whose strings are xs. -/
def Sl (w : World) (v : Value) (xs : List ByteArray) : Prop := ∃ A c, v = .slice A xs.length c ∧ Strs w A xs ∧ (A = none → c = 0)
theorem Sl.nil (w : World) : Sl w (.slice none 0 0) [] := ⟨none, 0, rfl, .nil _ _, fun _ => rfl⟩
theorem Sl.below {w w' : World} {v : Value} {xs : List ByteArray} (h : Sl w v xs) (k : Below w.heap.size w w') : Sl w' v xs := by
  obtain ⟨A, c, h1, h2, h3⟩ := h
  exact ⟨A, c, h1, h2.below k, h3⟩
theorem Strs.grown {w w' : World} {A : Option Addr} {xs : List ByteArray} (h : Strs w A xs) {r : Option Nat} (k : w.grownBy w' r) {B : Nat} (hr : ∀ i, r = some i → B ≤ i) (hA : ∀ a, A = some a → a.block < B) : Strs w' A xs := by
  rcases h with h | ⟨b, o, h1, h2, h3⟩
  · exact .inl h
  · refine .inr ⟨b, o, h1, Nat.lt_of_lt_of_le h2 k.size, fun j x hx => ?_⟩
    have hb : b < B := hA _ h1
    rw [World.cell?_of_block (k.block b h2 (fun e => by have := hr b e.symm; omega))]
    exact h3 j x hx
/-- .. of a slice value that lies below B. -/
theorem Sl.grown {w w' : World} {v : Value} {xs : List ByteArray} (h : Sl w v xs) {r : Option Nat} (k : w.grownBy w' r) (hr : v.ownBlock = none ∨ v.ownBlock ≠ r ∨ r = none) : Sl w' v xs := by
  obtain ⟨A, c, h1, h2, h3⟩ := h
  refine ⟨A, c, h1, ?_, h3⟩
  rcases h2 with h | ⟨b, o, rfl, h4, h5⟩
  · exact .inl h
  · refine .inr ⟨b, o, rfl, Nat.lt_of_lt_of_le h4 k.size, fun j x hx => ?_⟩
    have hne : some b ≠ r := by
      subst h1
      rcases hr with h | h | h
      · cases h
      · exact h
      · rw [h]; simp
    rw [World.cell?_of_block (k.block b h4 hne)]
    exact h5 j x hx
theorem Sl.of_own {w : World} {base : Nat} {v : Value} {xs : List ByteArray} (h : w.ownsRow base 9 1 v xs.length (xs.map Value.string)) : Sl w v xs := by
  rcases h.2 with ⟨rfl, h2⟩ | ⟨g, cap, cur, rfl, hb, hg, hle, hcap, hs, ht⟩
  · obtain rfl := List.length_eq_zero_iff.1 h2
    exact Sl.nil w
  · refine ⟨_, _, rfl, .inr ⟨g, 0, rfl, (Array.getElem?_eq_some_iff.1 hg).1, fun j y hy => ?_⟩, fun h => (by cases h)⟩
    have hj : j < xs.length := (List.getElem?_eq_some_iff.1 hy).1
    have h1 : (List.take (xs.length * 1) cur.toList)[j]? = some (.string y) := by rw [ht, List.getElem?_map, hy]; rfl
    rw [List.getElem?_take_of_lt (by omega)] at h1
    simp only [World.cell?, hg, Nat.zero_add]
    simpa using h1
theorem infoString : (Tryz.prog.info? 9).map (fun i => (i.zero, i.size, i.bytes)) = some (some (.string ByteArray.empty), 1, 16) := by kernel_rfl
theorem append_strs (W : World) (base : Nat) (v u : Value) (xs ys : List ByteArray) (hown : W.ownsRow base 9 1 v xs.length (xs.map Value.string)) (hS : Sl W u ys) (hm : xs.length + ys.length ≤ 1000000) (hb : base ≤ W.heap.size) :
    ∃ v' w', (Builtin.append_ #[60, 60] 60 #[v, u]).run Tryz.prog W = .ok v' w' ∧ w'.ownsRow base 9 1 v' (xs ++ ys).length ((xs ++ ys).map Value.string) ∧ W.grownBy w' v.ownBlock ∧ (v'.ownBlock = v.ownBlock ∨ v'.ownBlock = some W.heap.size) := by
  obtain ⟨i0, hi, hz0, hz1, hz2⟩ := info_parts infoString
  obtain ⟨A, c, rfl, hS, hc⟩ := hS
  rcases A with _ | ad
  · obtain rfl := hc rfl
    obtain rfl : ys = [] := by
      rcases hS with h | ⟨b, o, h, _⟩
      · exact h
      · cases h
    exact ⟨v, W, run_append_owned_none (P := Tryz.prog) (w := W) base 60 60 9 i0 1 Tryz.underlying60 hi v xs.length _ hown, by simpa using hown, World.grownBy.refl W _, .inl rfl⟩
  · obtain ⟨v', w', h1, h2, h3, _, h5⟩ := run_append_own_at (P := Tryz.prog) W base 60 60 9 i0 (.string ByteArray.empty) 1 16 Tryz.underlying60 hi hz0 hz1 hz2 rfl (by decide) v xs.length _ hown ad ys.length c (ys.map Value.string) (by simp) (by
      intro j z hz
      rcases hS with h | ⟨b, o, h, _, h3⟩
      · subst h; simp at hz
      · cases h
        rw [List.getElem?_map] at hz
        rcases hy : ys[j]? with _ | y
        · rw [hy] at hz; cases hz
        · rw [hy] at hz
          cases hz
          rw [Addr.add_mid]
          exact h3 j y hy) (by
      intro z hz
      obtain ⟨y, _, rfl⟩ := List.mem_map.1 hz
      rfl) (by simp [maxLen]; omega) (by omega) hb
    exact ⟨v', w', h1, by simpa using h2, h3, h5⟩
/-- append of strings at an operation of a region that is walked in its order. -/
theorem wpList_append_strs {ops : Array Oper} {rest : List Oper} {o : Oper} {a : Act} {Q : Exit → Act → World → Prop} {W : World} (hg : Region.wanted o (yielded ops a.tmps) = true) (s x : Operand)
    (ho : o.op = .call { callee := .builtin .append, args := #[s, x], argTypes := #[60, 60] }) (hty : o.type = 60) (base : Nat) (v u : Value) (xs ys : List ByteArray) (hs : a.eval s = v) (hx : a.eval x = u)
    (hown : W.ownsRow base 9 1 v xs.length (xs.map Value.string)) (hS : Sl W u ys) (hm : xs.length + ys.length ≤ 1000000) (hb : base ≤ W.heap.size)
    (h : ∀ v' w', w'.ownsRow base 9 1 v' (xs ++ ys).length ((xs ++ ys).map Value.string) → W.grownBy w' v.ownBlock → (v'.ownBlock = v.ownBlock ∨ v'.ownBlock = some W.heap.size) → wpList Tryz.prog ops Q rest (a.put o.dst v') w') : wpList Tryz.prog ops Q (o :: rest) a W := by
  obtain ⟨v', w', h1, h2, h3, h4⟩ := append_strs W base v u xs ys hown hS hm hb
  unfold wpList
  rw [if_pos hg]
  left
  unfold Oper.wp execOp
  simp only [ho, hty, resolve, invoke, builtin, Sem.run_bind, Sem.run_pure, Result.andThen_ok, List.map_toArray, List.map_cons, List.map_nil, hs, hx, h1]
  exact h v' w' h2 h3 h4
/-- A row that was just laid empty. -/
theorem lit_row (W : World) : (W.alloc (.cells #[] 9)).ownsRow W.heap.size 9 1 (.slice (some ⟨W.heap.size, 0, none⟩) 0 0) ([] : List ByteArray).length (([] : List ByteArray).map Value.string) :=
  ⟨rfl, .inr ⟨W.heap.size, 0, #[], rfl, Nat.le_refl _, (by show (W.heap.push _)[W.heap.size]? = some _; simp), Nat.le_refl _, by simp [maxLen], rfl, rfl⟩⟩
/-- A row of one's own that grew. -/
theorem Bl.grownRow {B : Nat} {a b c : World} (h : Bl B a b) {base : Nat} {e : TypeId} {size n : Nat} {v : Value} {xs : List Value} (hown : b.ownsRow base e size v n xs) (hB : B ≤ base) (k : b.grownBy c v.ownBlock) : Bl B a c :=
  ⟨h.1.grown k h.2 (fun i hi => Nat.le_trans hB (hown.lt i hi).1), Nat.le_trans h.2 k.size⟩
/-- A slice of one string that was just laid. -/
theorem one_lit (W : World) (s : ByteArray) : Sl (W.alloc (.cells #[.string s] 9)) (.slice (some ⟨W.heap.size, 0, none⟩) 1 1) [s] :=
  ⟨_, 1, rfl, .inr ⟨W.heap.size, 0, rfl, by simp, fun j x hx => by
    obtain rfl : j = 0 := by have := (List.getElem?_eq_some_iff.1 hx).1; simpa using this
    simp at hx
    subst hx
    simp⟩, fun h => (by cases h)⟩
theorem take_same {α : Type} {xs ys : List α} {k : Nat} (h : xs.take k = ys.take k) (h1 : k < xs.length) (h2 : k < ys.length) (he : xs[k] = ys[k]) : xs.take (k + 1) = ys.take (k + 1) := by
  rw [List.take_succ_eq_append_getElem h1, List.take_succ_eq_append_getElem h2, h, he]
theorem bytes_eq (a b : ByteArray) : (a.toList == b.toList) = decide (a = b) := by
  rw [ByteArray.toList_eq, ByteArray.toList_eq]
  by_cases h : a = b
  · subst h; simp
  · have : a.data.toList ≠ b.data.toList := fun e => h (ByteArray.ext (Array.toList_inj.1 e))
    rw [decide_eq_false h, beq_eq_false_iff_ne.2 this]
end Go.Proofs.YtlbebdkockejcaaGreatDoor
namespace Go.Proofs.YtlbebdkockejcaaGreatDoor
open Go.RowKit
set_option linter.unusedVariables false
set_option linter.unusedSimpArgs false
/-- Only blocks of S, and new ones, may have turned. -/
structure Far (S : Nat → Prop) (w w' : World) : Prop where
  os : w'.os = w.os
  tape : w'.tape = w.tape
  output : w'.output = w.output
  size : w.heap.size ≤ w'.heap.size
  block : ∀ k, k < w.heap.size → ¬ S k → w'.heap[k]? = w.heap[k]?
section
variable {S S' : Nat → Prop} {a b c w w' : World}
theorem Far.refl (S : Nat → Prop) (w : World) : Far S w w := ⟨rfl, rfl, rfl, Nat.le_refl _, fun _ _ _ => rfl⟩
theorem Far.trans (h : Far S a b) (k : Far S' b c) (hS : ∀ i, i < a.heap.size → S' i → S i) : Far S a c :=
  ⟨k.os.trans h.os, k.tape.trans h.tape, k.output.trans h.output, Nat.le_trans h.size k.size, fun i hi hn => (k.block i (Nat.lt_of_lt_of_le hi h.size) (fun e => hn (hS i hi e))).trans (h.block i hi hn)⟩
theorem Far.mono (h : Far S a b) (hS : ∀ i, i < a.heap.size → S i → S' i) : Far S' a b :=
  ⟨h.os, h.tape, h.output, h.size, fun i hi hn => h.block i hi (fun e => hn (hS i hi e))⟩
theorem Far.drew (h : Far S a b) : Far S a b.drew := ⟨h.os, h.tape, h.output, h.size, h.block⟩
theorem Far.drewN (h : Far S a b) (n : Nat) : Far S a (b.drewN n) := by
  have : Below b.heap.size b (b.drewN n) := below_drewN (Below.refl _ _) n
  exact ⟨this.os.trans h.os, this.tape.trans h.tape, this.output.trans h.output, Nat.le_trans h.size this.size, fun i hi hn => (this.block i (Nat.lt_of_lt_of_le hi h.size)).trans (h.block i hi hn)⟩
theorem Far.alloc (h : Far S a b) (o : Obj) : Far S a (b.alloc o) :=
  ⟨h.os, h.tape, h.output, by have := h.size; simp; omega, fun i hi hn => (Below.heap_alloc b o i (Nat.lt_of_lt_of_le hi h.size)).trans (h.block i hi hn)⟩
theorem Far.setCell (h : Far S a b) {p : Addr} (hp : p.block < a.heap.size → S p.block) (v : Value) : Far S a (b.setCell p v) :=
  ⟨h.os, h.tape, h.output, by have := h.size; simp [World.setCell]; exact this, fun i hi hn => (Below.heap_setCell b p v i (fun e => hn (by subst e; exact hp hi))).trans (h.block i hi hn)⟩
theorem Far.setRow (h : Far S a b) {g : Nat} (hg : g < a.heap.size → S g) (cs : Array Value) : Far S a (b.setRow g cs) :=
  ⟨h.os, h.tape, h.output, by have := h.size; simpa [World.setRow] using this, fun i hi hn => by
    have : (b.setRow g cs).heap[i]? = b.heap[i]? := by
      simp only [World.setRow, Array.getElem?_modify]
      rw [if_neg (fun e => hn (by subst e; exact hg hi))]
    exact this.trans (h.block i hi hn)⟩
theorem Far.grown (h : Far S a b) {r : Option Nat} (k : b.grownBy c r) (hr : ∀ i, i < a.heap.size → r = some i → S i) : Far S a c :=
  ⟨k.os.trans h.os, k.tape.trans h.tape, k.output.trans h.output, Nat.le_trans h.size k.size, fun i hi hn => (k.block i (Nat.lt_of_lt_of_le hi h.size) (fun e => hn (hr i hi e.symm))).trans (h.block i hi hn)⟩
theorem Far.call (h : Far S a b) (k : Below b.heap.size b c) : Far S a c :=
  ⟨k.os.trans h.os, k.tape.trans h.tape, k.output.trans h.output, Nat.le_trans h.size k.size, fun i hi hn => (k.block i (Nat.lt_of_lt_of_le hi h.size)).trans (h.block i hi hn)⟩
theorem Far.below (h : Far S a b) {B : Nat} (hB : B ≤ a.heap.size) (hS : ∀ i, S i → B ≤ i) : Below B a b :=
  ⟨h.os, h.tape, h.output, h.size, fun i hi => h.block i (Nat.lt_of_lt_of_le hi hB) (fun e => by have := hS i e; omega)⟩
theorem Far.bl {B : Nat} (h : Bl B a b) (k : Far S b c) (hS : ∀ i, S i → B ≤ i) : Bl B a c := ⟨h.1.trans (k.below h.2 hS), Nat.le_trans h.2 k.size⟩
end
/-- Block g is just these cells. -/
def Blk (w : World) (g : Nat) (t : TypeId) (cs : Array Value) : Prop := w.heap[g]? = some (.cells cs t)
section
variable {w w' : World} {g : Nat} {t : TypeId} {cs : Array Value}
theorem Blk.lt (h : Blk w g t cs) : g < w.heap.size := (Array.getElem?_eq_some_iff.1 h).1
theorem Blk.cell (h : Blk w g t cs) (i : Nat) : w.cell? ⟨g, i, none⟩ = cs[i]? := by
  simp [World.cell?, show w.heap[g]? = _ from h]
theorem Blk.frozen (h : Blk w g t cs) (i : Nat) : w.frozen? ⟨g, i, none⟩ = false := by simp [World.frozen?, show w.heap[g]? = _ from h]
theorem Blk.new (w : World) (t : TypeId) (cs : Array Value) : Blk (w.alloc (.cells cs t)) w.heap.size t cs := by
  show (w.heap.push _)[w.heap.size]? = some _
  simp
theorem Blk.far {S : Nat → Prop} (h : Blk w g t cs) (k : Far S w w') (hg : ¬ S g) : Blk w' g t cs := (k.block g h.lt hg).trans h
theorem Blk.below (h : Blk w g t cs) (k : Below w.heap.size w w') : Blk w' g t cs := (k.block g h.lt).trans h
theorem Blk.drewN (h : Blk w g t cs) (n : Nat) : Blk (w.drewN n) g t cs := h
theorem Blk.set (h : Blk w g t cs) (i : Nat) (u : Value) : Blk (w.setCell ⟨g, i, none⟩ u) g t (cs.setIfInBounds i u) := by
  unfold Blk at *
  simp [World.setCell, Array.getElem?_modify, h]
theorem Blk.alloc (h : Blk w g t cs) (o : Obj) : Blk (w.alloc o) g t cs := (Below.heap_alloc w o g h.lt).trans h
theorem Blk.other (h : Blk w g t cs) {p : Addr} (hp : g ≠ p.block) (u : Value) : Blk (w.setCell p u) g t cs := (Below.heap_setCell w p u g hp).trans h
theorem Blk.grown (h : Blk w g t cs) {r : Option Nat} (k : w.grownBy w' r) (hr : r ≠ some g) : Blk w' g t cs := (k.block g h.lt (fun e => hr e.symm)).trans h
end
theorem Sl.far {S : Nat → Prop} {w w' : World} {v : Value} {xs : List ByteArray} (h : Sl w v xs) (k : Far S w w') (hv : ∀ i, v.ownBlock = some i → ¬ S i) : Sl w' v xs := by
  obtain ⟨A, c, rfl, h2, h3⟩ := h
  refine ⟨A, c, rfl, ?_, h3⟩
  rcases h2 with h | ⟨b, o, rfl, h4, h5⟩
  · exact .inl h
  · exact .inr ⟨b, o, rfl, Nat.lt_of_lt_of_le h4 k.size, fun j x hx => (World.cell?_of_block (w := w) (k.block b h4 (hv b rfl))).trans (h5 j x hx)⟩
theorem Sl.lt {w : World} {v : Value} {xs : List ByteArray} (h : Sl w v xs) (hx : xs ≠ []) : ∀ i, v.ownBlock = some i → i < w.heap.size := by
  obtain ⟨A, c, rfl, h2, h3⟩ := h
  intro i hi
  rcases h2 with h | ⟨b, o, rfl, h4, h5⟩
  · exact absurd h hx
  · cases hi
    exact h4
theorem own_far {S : Nat → Prop} {w w' : World} {base : Nat} {e : TypeId} {size n : Nat} {v : Value} {xs : List Value} (h : w.ownsRow base e size v n xs) (k : Far S w w') (hv : ∀ i, v.ownBlock = some i → ¬ S i) : w'.ownsRow base e size v n xs := by
  refine ⟨h.1, h.2.imp id ?_⟩
  rintro ⟨g, cap, cur, rfl, h2, h3, h4⟩
  exact ⟨g, cap, cur, rfl, h2, (k.block g (Array.getElem?_eq_some_iff.1 h3).1 (hv g rfl)).trans h3, h4⟩
/-- A row that has something lies in a block. -/
theorem own_some {w : World} {base : Nat} {v : Value} {xs : List ByteArray} (h : w.ownsRow base 9 1 v xs.length (xs.map Value.string)) (hx : xs ≠ []) :
    ∃ (k cap : Nat) (cur : List Value), v = .slice (some ⟨k, 0, none⟩) xs.length cap ∧ base ≤ k ∧ w.heap[k]? = some (.cells cur.toArray 9) ∧ xs.length ≤ cap ∧ cap ≤ maxLen ∧ cur.length = cap ∧ cur.take xs.length = xs.map Value.string := by
  rcases h.2 with ⟨_, h2⟩ | ⟨k, cap, cur, rfl, hb, hg, hle, hcap, hs, ht⟩
  · exact absurd (List.length_eq_zero_iff.1 h2) hx
  · exact ⟨k, cap, cur.toList, rfl, hb, by rw [Array.toArray_toList]; exact hg, hle, hcap, by simpa using hs, by rw [Nat.mul_one] at ht; exact ht⟩
theorem elemStrs : Tryz.prog.underlying 60 = some (.slice (Tryz.prog.elem 60)) := by kernel_rfl
theorem sizeStrs (W : World) : (sizeOf (Tryz.prog.elem 60)).run Tryz.prog W = .ok 1 W := by kernel_rfl
/-- s[l:] of strings. -/
theorem slice_low (b o m cap l : Nat) (hl : l ≤ m) (W : World) : (Instr.slice 60 (.slice (some ⟨b, o, none⟩) m cap) (some (.int .i64 (l : Int))) none none).run Tryz.prog W = .ok (.slice (if cap = l then some ⟨b, o, none⟩ else some ⟨b, o + l, none⟩) (m - l) (cap - l)) W := by
  rw [run_slice_l W 60 (some ⟨b, o, none⟩) m cap elemStrs .i64 (l : Int) (by omega) (by omega), sizeStrs]
  simp only [Result.andThen, sliced, Int.toNat_natCast, Nat.mul_one, Option.map_some, Addr.add_mid]
/-- s[:h] of strings. -/
theorem slice_high (b o m cap h : Nat) (hh : h ≤ cap) (hc : 0 < cap) (W : World) : (Instr.slice 60 (.slice (some ⟨b, o, none⟩) m cap) none (some (.int .i64 (h : Int))) none).run Tryz.prog W = .ok (.slice (some ⟨b, o, none⟩) h cap) W := by
  rw [run_slice_h W 60 (some ⟨b, o, none⟩) m cap elemStrs .i64 (h : Int) (by omega) (by omega), sizeStrs]
  simp [Result.andThen, sliced, Addr.add]
theorem own_drewN {w : World} {base : Nat} {e : TypeId} {size n : Nat} {v : Value} {xs : List Value} (h : w.ownsRow base e size v n xs) (q : Nat) : (w.drewN q).ownsRow base e size v n xs := own_far h ((Far.refl (fun _ => False) w).drewN q) (fun _ _ h => h)
end Go.Proofs.YtlbebdkockejcaaGreatDoor

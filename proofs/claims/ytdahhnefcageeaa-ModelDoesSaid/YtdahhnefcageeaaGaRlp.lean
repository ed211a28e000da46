/-
  Merged: Core.
-/
import Derived.Test.YtdahhnefcageeaaRows
import Derived.WalkKit
import Derived.RegionTactic
import Derived.Deep.OwnRows
import Derived.Deep.RegionWith
import Derived.Deep.QuietTactic
import Derived.BigQuiet
import Derived.WalkLawsBesides
import Derived.Laws.BytesArg
import Derived.Laws.CopyRow
import Derived.Laws.Tables
import Derived.Deep.MidRow
import Derived.Laws.BitsLemmas
import Derived.Lib.Hide
import Derived.Lib.Strings
namespace Go.Proofs.Nib
/-- A list of bytes as a string. -/
def bs (l : List UInt8) : ByteArray := ⟨l.toArray⟩
theorem bs_data (l : List UInt8) : (bs l).data.toList = l := rfl
theorem bs_size (l : List UInt8) : (bs l).size = l.length := by simp [bs, ByteArray.size]
theorem bs_of (s : ByteArray) : bs s.data.toList = s := rfl
theorem len_of (s : ByteArray) : s.data.toList.length = s.size := by simp
theorem bs_append (a b : List UInt8) : bs (a ++ b) = bs a ++ bs b := by
  apply ByteArray.ext
  simp [bs]
theorem data_append (a b : ByteArray) : (a ++ b).data.toList = a.data.toList ++ b.data.toList := by simp
end Go.Proofs.Nib
namespace Go.Proofs.Ytdahhnefcageeaa
open Go.RowKit
theorem ret_int {k : IntKind} {a b : Int} (h : a = b) : Ending.returned (.int k a) = .returned (.int k b) := by rw [h]
theorem ret_bool {a b : Bool} (h : a = b) : Ending.returned (.bool a) = .returned (.bool b) := by rw [h]
theorem ret_string {a b : ByteArray} (h : a = b) : Ending.returned (.string a) = .returned (.string b) := by rw [h]
/-- A call that only draws, behind draws: of one world. -/
theorem quietly {f : FuncId} {args : Array Value} {w : World} {a n : Nat} {v : Value} (h : Calls Try.prog f args (w.drewN (a + n)) fun e w' => e = .returned v ∧ ∃ q, w' = (w.drewN (a + n)).drewN q) :
    Calls Try.prog f args (w.drewN (a + n)) fun e w' => e = .returned v ∧ ∃ m, w' = w.drewN (a + m) := by
  refine h.mono ?_
  rintro e w' ⟨he, q, rfl⟩
  exact ⟨he, n + q, by rw [World.drewN_drewN, Nat.add_assoc]⟩
theorem quietly_same {f : FuncId} {args : Array Value} {w : World} {a n : Nat} {v : Value} (h : Calls Try.prog f args (w.drewN (a + n)) fun e w' => e = .returned v ∧ w.drewN (a + n) = w') :
    Calls Try.prog f args (w.drewN (a + n)) fun e w' => e = .returned v ∧ ∃ m, w' = w.drewN (a + m) := by
  refine h.mono ?_
  rintro e w' ⟨he, rfl⟩
  exact ⟨he, n, rfl⟩
/-- The same, behind none. -/
theorem quietly0 {f : FuncId} {args : Array Value} {w : World} {n : Nat} {v : Value} (h : Calls Try.prog f args (w.drewN n) fun e w' => e = .returned v ∧ ∃ q, w' = (w.drewN n).drewN q) :
    Calls Try.prog f args (w.drewN n) fun e w' => e = .returned v ∧ ∃ m, w' = w.drewN m := by
  refine h.mono ?_
  rintro e w' ⟨he, q, rfl⟩
  exact ⟨he, n + q, by rw [World.drewN_drewN]⟩
/-- A row's cells, written out. -/
theorem rowIs_arr {w : World} {b : Nat} {t : TypeId} {n : Nat} {f : Nat → Value} (h : w.rowIs b t n f) : w.heap[b]? = some (.cells ((List.range n).map f).toArray t (0, 0)) := by
  obtain ⟨c, hc, hs, hf⟩ := h
  rw [hc]
  congr 2
  apply Array.ext
  · simp [hs]
  · intro i h1 h2
    have := hf i (by omega)
    rw [Array.getElem?_eq_getElem h1] at this
    simpa using this
/-- A row, known whole. -/
theorem rowIs_of {w : World} {b : Nat} {t : TypeId} {n : Nat} {f : Nat → Value} (h : w.heap[b]? = some (.cells ((List.range n).map f).toArray t (0, 0))) : w.rowIs b t n f :=
  ⟨_, h, by simp, fun i hi => by simp [hi]⟩
theorem heap_setRow (w : World) (g : Nat) (c cells : Array Value) (t : TypeId) (fr : Nat × Nat) (hg : w.heap[g]? = some (.cells c t fr)) : (w.setRow g cells).heap[g]? = some (.cells cells t fr) := setRow_heap w g c cells t fr hg
/-- The cells of a block that was just made. -/
theorem cells_new (W : World) (t : TypeId) (cs : List Value) : ∀ j u, cs[j]? = some u → (W.alloc (.cells cs.toArray t)).cell? ((⟨W.heap.size, 0, none⟩ : Addr).add j) = some u := by
  intro j u hj
  have hlt : j < cs.length := by
    rcases Nat.lt_or_ge j cs.length with h | h
    · exact h
    · rw [List.getElem?_eq_none h] at hj; cases hj
  rw [Addr.add_mid, Nat.zero_add, World.cell?_alloc_new]
  simpa using hj
/-- Below B all is as it was, and B lies within the world. -/
def Bl (B : Nat) (a b : World) : Prop := Below B a b ∧ B ≤ b.heap.size
theorem Bl.start (w : World) : Bl w.heap.size w w := ⟨Below.refl _ _, Nat.le_refl _⟩
theorem Bl.alloc {B : Nat} {a b : World} (h : Bl B a b) (o : Obj) : Bl B a (b.alloc o) := ⟨h.1.alloc h.2 o, by have := h.2; simp; omega⟩
theorem Bl.call {B : Nat} {a b c : World} (h : Bl B a b) (k : Below b.heap.size b c) : Bl B a c := ⟨h.1.trans (k.mono h.2), Nat.le_trans h.2 k.size⟩
theorem Bl.setCell {B : Nat} {a b : World} (h : Bl B a b) {p : Addr} (hp : B ≤ p.block) (v : Value) : Bl B a (b.setCell p v) := ⟨h.1.setCell hp v, by have := h.2; simp; omega⟩
theorem Bl.setRow {B : Nat} {a b : World} (h : Bl B a b) {g : Nat} (hg : B ≤ g) (cs : Array Value) : Bl B a (b.setRow g cs) :=
  ⟨h.1.trans ⟨rfl, rfl, rfl, by simp, fun k hk => by simp only [World.setRow, Array.getElem?_modify]; rw [if_neg (by omega)]⟩, by have := h.2; simp; omega⟩
theorem Bl.drew {B : Nat} {a b : World} (h : Bl B a b) : Bl B a b.drew := ⟨h.1.drew, h.2⟩
theorem Bl.drewN {B : Nat} {a b : World} (h : Bl B a b) (n : Nat) : Bl B a (b.drewN n) := ⟨below_drewN h.1 n, h.2⟩
end Go.Proofs.Ytdahhnefcageeaa

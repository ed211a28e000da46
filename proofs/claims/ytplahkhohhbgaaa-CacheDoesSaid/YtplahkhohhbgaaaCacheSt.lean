/-
  Package cache: a cache as it lies: New, Often, Counted, Forget.
-/
import Derived.Test.YtplahkhohhbgaaaCacheIng
import Derived.Test.YtplahkhohhbgaaaCacheDel
namespace Go.Proofs.Cch
/-- What is there when a key was forgotten. -/
def forgetF (ts : Things) (key : ByteArray) : Things × Bool := if placeOf ts key = -1 then (ts, false) else (ts.eraseIdx (placeOf ts key).toNat, true)
/-- What is there when a thing was offered. -/
def offerF (sz : Nat) (ts : Things) (cs : Counts) (key value : ByteArray) : Things × Bool :=
  if placeOf ts key = -1 then
    if ts.length = sz then
      match ts[sz - 1]? with
      | some t => if cntAt cs key ≤ cntAt cs t.1 then (ts, false) else ((key, value) :: ts.eraseIdx (sz - 1), true)
      | none => (ts, false)
    else ((key, value) :: ts, true)
  else ((key, value) :: ts.eraseIdx (placeOf ts key).toNat, true)
def sizeOfC (n : Int) : Nat := (min (max n 0) 64).toNat
end Go.Proofs.Cch
namespace Go.Proofs.Ytplahkhohhbgaaa
open Go.RowKit Go.Proofs.Cch
set_option linter.unusedVariables false
set_option linter.unusedSimpArgs false
/-- A cache that was made behind w0. -/
structure Cs (w0 : World) (g sz : Nat) (v : Value) (m : Nat) (ts : Things) (cs : Counts) (ask : Nat) (w : World) : Prop where
  blk : Blk w g 76 #[.int .i64 (sz : Int), v, .map (some m), .int .i64 (ask : Int)]
  row : Rt w w0.heap.size v ts
  map : Mp w m cs
  gle : w0.heap.size ≤ g
  mle : w0.heap.size ≤ m
  gm : g ≠ m
  vg : v.ownBlock ≠ some g
  vm : v.ownBlock ≠ some m
  bl : Bl w0.heap.size w0 w
  len : ts.length ≤ sz
  top : sz ≤ 64
  keys : ∀ (j : Nat) (t : ByteArray × ByteArray), ts[j]? = some t → t.1.size ≤ maxLen
  cnt : cs.length ≤ 100000
/-- The blocks that a cache may turn. -/
def Ow (g : Nat) (v : Value) (m : Nat) (k : Nat) : Prop := k = g ∨ v.ownBlock = some k ∨ k = m
section
variable {w0 : World} {g sz : Nat} {v : Value} {m : Nat} {ts : Things} {cs : Counts} {ask : Nat} {w w' : World}
theorem Cs.below (h : Cs w0 g sz v m ts cs ask w) (k : Below w.heap.size w w') : Cs w0 g sz v m ts cs ask w' :=
  { blk := h.blk.below k, row := own_far h.row (S := fun _ => False) ⟨k.os, k.tape, k.output, k.size, fun i hi _ => k.block i hi⟩ (fun _ _ h => h), map := h.map.below k, gle := h.gle, mle := h.mle, gm := h.gm, vg := h.vg, vm := h.vm,
    bl := h.bl.call k, len := h.len, top := h.top, keys := h.keys, cnt := h.cnt }
theorem Cs.drewN (h : Cs w0 g sz v m ts cs ask w) (n : Nat) : Cs w0 g sz v m ts cs ask (w.drewN n) := h.below (below_drewN (Below.refl _ _) n)
/-- The row has turned. -/
theorem Cs.turned (h : Cs w0 g sz v m ts cs ask w) {v' : Value} {ts' : Things} (hr : Rt w' w0.heap.size v' ts') (F : Far (fun j => v.ownBlock = some j) w w') (ho : v'.ownBlock = v.ownBlock ∨ ∀ i, v'.ownBlock = some i → w.heap.size ≤ i)
    (hl : ts'.length ≤ sz) (hk : ∀ (j : Nat) (t : ByteArray × ByteArray), ts'[j]? = some t → t.1.size ≤ maxLen) : Cs w0 g sz v' m ts' cs ask (w'.setCell ⟨g, 1, none⟩ v') := by
  have hg' : ∀ i, v'.ownBlock = some i → i ≠ g := fun i hi e => by
    rcases ho with o | o
    · exact h.vg (by rw [← o, hi, e])
    · have h1 := o i hi
      have h2 := h.blk.lt
      omega
  have hm' : ∀ i, v'.ownBlock = some i → i ≠ m := fun i hi e => by
    rcases ho with o | o
    · exact h.vm (by rw [← o, hi, e])
    · have h1 := o i hi
      have h2 := h.map.lt
      omega
  have b1 := h.blk.far F h.vg
  have F2 : Far (fun j => j = g) w' (w'.setCell ⟨g, 1, none⟩ v') := (Far.refl (fun j => j = g) w').setCell (p := ⟨g, 1, none⟩) (fun _ => rfl) v'
  refine { blk := by have := b1.set 1 v'; simpa using this, row := own_far hr F2 hg', map := (h.map.far F h.vm).far F2 (fun e => h.gm e.symm), gle := h.gle, mle := h.mle, gm := h.gm, vg := fun e => hg' g e rfl, vm := fun e => hm' m e rfl, bl := ?_, len := hl, top := h.top, keys := hk, cnt := h.cnt }
  have hb : ∀ j, v.ownBlock = some j → w0.heap.size ≤ j := fun j hj => (h.row.lt j hj).1
  exact Far.bl (Far.bl h.bl F hb) F2 (fun i hi => by rw [hi]; exact h.gle)
theorem often_any (key : ByteArray) (hk : key.size ≤ maxLen) (h : Cs w0 g sz v m ts cs ask w) :
    Calls Try.prog 27 #[.pointer (some ⟨g, 0, none⟩), .string key] w fun e w' => e = .returned (.int .i64 (cntAt cs key : Int)) ∧ w = w' := by
  have c2 : w.cell? ⟨g, 2, none⟩ = some (.map (some m)) := by rw [h.blk.cell]; rfl
  have hlook := h.map.look key hk
  clear h
  go_enter Try.func27, Try.ntmps27
  go_wp2_with fail
  go_ret
  exact ⟨rfl, rfl⟩
theorem counted_any (h : Cs w0 g sz v m ts cs ask w) :
    Calls Try.prog 29 #[.pointer (some ⟨g, 0, none⟩)] w fun e w' => e = .returned (.int .i64 (cs.length : Int)) ∧ w = w' := by
  have c2 : w.cell? ⟨g, 2, none⟩ = some (.map (some m)) := by rw [h.blk.cell]; rfl
  have hlen := fun ty => h.map.len ty
  clear h
  go_enter Try.func29, Try.ntmps29
  go_wp2_with fail
  go_ret
  exact ⟨rfl, rfl⟩
end
set_option maxHeartbeats 400000 in
theorem cnew_any (n : Int) (w0 w : World) (hb : Bl w0.heap.size w0 w) :
    Calls Try.prog 15 #[.int .i64 n] w fun e w' => e = .returned (.pointer (some ⟨w.heap.size + 1, 0, none⟩)) ∧ Cs w0 (w.heap.size + 1) (sizeOfC n) (.slice none 0 0) w.heap.size [] [] 0 w' ∧ Below w.heap.size w w' := by
  obtain ⟨R, hR⟩ : ∃ R : Nat, sizeOfC n = R := ⟨_, rfl⟩
  have hRi : ((R : Nat) : Int) = min (max n 0) 64 := by rw [← hR]; unfold sizeOfC; omega
  have hmm := @run_makeMap Try.prog
  rw [hR]
  have hRb : R ≤ 64 := by omega
  have HRI := Lib.hid hRi
  clear hRi hR
  go_enter Try.func15, Try.ntmps15
  go_wp2_with fail
  go_ret
  rw [← HRI.out]
  have hm := Mp.new w
  have b0 : Below w.heap.size w (w.alloc (.map #[] 0)) := (Below.refl _ w).alloc (Nat.le_refl _) _
  refine ⟨rfl, { blk := ?_, row := ⟨rfl, .inl ⟨rfl, rfl⟩⟩, map := hm.below ((Below.refl _ _).alloc (Nat.le_refl _) _), gle := by have := hb.2; omega, mle := hb.2, gm := by omega, vg := by simp [Value.ownBlock], vm := by simp [Value.ownBlock], bl := (hb.call b0).alloc _, len := by simp, top := hRb, keys := by simp, cnt := by simp }, b0.alloc (by simp) _⟩
  have := Blk.new (w.alloc (.map #[] 0)) 76 #[.int .i64 (R : Int), .slice none 0 0, .map (some w.heap.size), .int .i64 0]
  rw [show (w.alloc (.map #[] 0)).heap.size = w.heap.size + 1 by simp] at this
  exact this
end Go.Proofs.Ytplahkhohhbgaaa

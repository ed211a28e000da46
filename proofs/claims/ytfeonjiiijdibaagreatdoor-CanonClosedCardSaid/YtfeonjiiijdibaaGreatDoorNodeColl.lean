/-
  sha.Collide, beside the nodes; what a ref is good for.
-/
import Derived.Test.YtfeonjiiijdibaaGreatDoorNodeCutsP
import Derived.Test.YtfeonjiiijdibaaGreatDoorGaRun
import Derived.Lib.Hide
namespace Go.Proofs.YtfeonjiiijdibaaGreatDoor
open Go.RowKit Go.Proofs.Nod
set_option linter.unusedVariables false
set_option linter.unusedSimpArgs false
/-- Whether two texts collide. -/
def colN (a b : ByteArray) : Bool := !(a.toList == b.toList) && ((shaB a).toList == (shaB b).toList)
theorem of_new (s : ByteArray) (W : World) (hl : Laid W) (hs : s.size ≤ 1048576) :
    Calls Tryz.prog 34 #[.slice (some ⟨W.heap.size, 0, none⟩) 1 1] (W.alloc (.cells #[.string s] 9)) fun e w' => e = .returned (.string (shaB s)) ∧ Below W.heap.size W w' := by
  have hw1 : 1 < W.heap.size := by obtain ⟨_, ⟨t1, f1, e1⟩⟩ := hl; exact (Array.getElem?_eq_some_iff.1 e1).1
  have b0 : Bl W.heap.size W (W.alloc (.cells #[.string s] 9)) := (Bl.start W).alloc _
  refine (of_one s W.heap.size _ (hl.below hw1 b0.1) hs (Blk.new W 9 #[.string s])).mono ?_
  rintro e w' ⟨rfl, hb⟩
  exact ⟨rfl, (b0.call hb).1⟩
theorem ret_boolN {b c : Bool} (h : b = c) : (Ending.returned (.bool b)) = .returned (.bool c) := by rw [h]
set_option maxHeartbeats 1000000 in
theorem collide_nd (a b : ByteArray) (W : World) (hl : Laid W) (ha : a.size ≤ 1048576) (hb : b.size ≤ 1048576) :
    Calls Tryz.prog 32 #[.string a, .string b] W fun e w' => e = .returned (.bool (colN a b)) ∧ Below W.heap.size W w' := by
  have hw1 : 1 < W.heap.size := by obtain ⟨_, ⟨t1, f1, e1⟩⟩ := hl; exact (Array.getElem?_eq_some_iff.1 e1).1
  have HL := Lib.hid hl
  clear hl
  cases hab : (a.toList == b.toList) with
  | true =>
    have HC : Hid (colN a b = false) := by
      have : colN a b = false := by rw [colN, hab]; rfl
      exact this
    go_enter Tryz.func32, Tryz.ntmps32
    go_wp2_with fail
    go_ret
    exact ⟨by rw [HC.out]; rfl, Below.refl _ _⟩
  | false =>
    have HC : Hid (colN a b = ((shaB a).toList == (shaB b).toList)) := by
      have : colN a b = ((shaB a).toList == (shaB b).toList) := by rw [colN, hab]; rfl
      exact this
    go_enter Tryz.func32, Tryz.ntmps32
    go_wp2_with fail
    refine (of_new a _ HL.out ha).mono ?_
    rintro e w1 ⟨rfl, b1⟩
    have B1 := Lib.hid b1
    have L1 := Lib.hid (HL.out.below hw1 b1)
    clear b1
    go_wp2_with fail
    refine (of_new b _ L1.out hb).mono ?_
    rintro e w2 ⟨rfl, b2⟩
    have B2 := Lib.hid b2
    clear b2
    go_wp2_with fail
    go_ret
    exact ⟨ret_boolN (by rw [HC.out]), (((Bl.start W).call B1.out).call B2.out).1⟩
theorem col_yes {a b : ByteArray} (h : ¬ a = b) (hs : shaB a = shaB b) : colN a b = true := by
  unfold colN
  have : ¬ a.toList = b.toList := fun e => h (by
    apply ByteArray.ext
    apply Array.toList_inj.1
    rwa [ByteArray.toList_eq, ByteArray.toList_eq] at e)
  simp [this, hs]
theorem ref_small {s : ByteArray} (h : s.size < 32) : refB s = s := if_pos h
theorem hash_small {s : ByteArray} (h : s.size < 32) : hashB s = none := by
  unfold hashB
  rw [if_neg (by omega)]
theorem in_small {n : Nd} (h : validB n = true) (h16 : n.refs.length = 16) (h0 : n.kind ≠ 0) (hs : (bytesB n).size < 32) : inB (bytesB n) = some n := by
  unfold inB inlineK
  rw [if_neg (by omega), back n h h16]
  exact if_neg h0
theorem ref_size {s : ByteArray} (h : ¬ s.size < 32) : (refB s).size = 33 := by rw [refB_hash h]; exact text32_size _ (shaB_size s)
theorem in_big {s : ByteArray} (h : ¬ s.size < 32) : inB (refB s) = none := by
  unfold inB inlineK
  rw [if_pos (by rw [ref_size h]; omega)]
theorem hash_big {s : ByteArray} (h : ¬ s.size < 32) : hashB (refB s) = some (shaB s) := by rw [refB_hash h]; exact hashB_text _ (shaB_size s)
theorem bytes_inj {n m : Nd} (hn : validB n = true) (hm : validB m = true) (h1 : n.refs.length = 16) (h2 : m.refs.length = 16) (h : bytesB n = bytesB m) : n = m := by
  have := back n hn h1
  rw [h, back m hm h2] at this
  exact (Option.some.inj this).symm
/-- Refs tell nodes apart, or the hash collides. -/
theorem refs_tell {n m : Nd} (hn : validB n = true) (hm : validB m = true) (h1 : n.refs.length = 16) (h2 : m.refs.length = 16) (h : refB (bytesB n) = refB (bytesB m)) (hne : ¬ n = m) : colN (bytesB n) (bytesB m) = true := by
  have hb : ¬ bytesB n = bytesB m := fun e => hne (bytes_inj hn hm h1 h2 e)
  by_cases hs : (bytesB n).size < 32
  · by_cases ht : (bytesB m).size < 32
    · rw [ref_small hs, ref_small ht] at h
      exact absurd h hb
    · have := ref_size ht
      rw [← h, ref_small hs] at this
      omega
  · by_cases ht : (bytesB m).size < 32
    · have := ref_size hs
      rw [h, ref_small ht] at this
      omega
    · have e1 := hash_big hs
      rw [h, hash_big ht] at e1
      exact col_yes hb (Option.some.inj e1).symm
end Go.Proofs.YtfeonjiiijdibaaGreatDoor

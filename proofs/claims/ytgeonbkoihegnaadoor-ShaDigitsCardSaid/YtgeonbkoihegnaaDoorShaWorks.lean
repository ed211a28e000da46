import Derived.Test.YtgeonbkoihegnaaDoorShaKnown
namespace Go.Proofs.YtgeonbkoihegnaaDoor
open Go.RowKit
theorem one_cell (W : World) (s : ByteArray) (t : TypeId) : ∀ i, i < [s].length → (W.alloc (.cells #[.string s] t)).cell? ⟨W.heap.size, 0 + i, none⟩ = some (.string ([s].getD i ByteArray.empty)) := by
  intro i hi
  obtain rfl : i = 0 := by simpa using hi
  simp
/-- The hash of one text. -/
theorem of_one (s : ByteArray) (W : World) (hl : Laid W) (hs : s.size ≤ 1048576) :
    Calls Tryd.prog 21 #[.slice (some ⟨W.heap.size, 0, none⟩) 1 1] (W.alloc (.cells #[.string s] 9)) fun e w' => e = .returned (.string (Nib.bs (Sha.sum s.data.toList))) ∧ Below W.heap.size W w' := by
  have hw1 : 1 < W.heap.size := by obtain ⟨_, ⟨t1, f1, e1⟩⟩ := hl; exact (Array.getElem?_eq_some_iff.1 e1).1
  have b0 : Bl W.heap.size W (W.alloc (.cells #[.string s] 9)) := (Bl.start W).alloc _
  refine (of_any W.heap.size 0 1 [s] _ (hl.below hw1 b0.1) (by simp) (by simpa using hs) (by simp) (one_cell W s _)).mono ?_
  rintro e w' ⟨rfl, hb⟩
  exact ⟨by simp [Sha.cat], (b0.call hb).1⟩
theorem two_cells (W : World) (s r : ByteArray) (t : TypeId) : ∀ i, i < [s, r].length → (W.alloc (.cells #[.string s, .string r] t)).cell? ⟨W.heap.size, 0 + i, none⟩ = some (.string ([s, r].getD i ByteArray.empty)) := by
  intro i hi
  rcases (show i = 0 ∨ i = 1 by simp at hi; omega) with rfl | rfl
  · simp
  · simp
/-- The hash of two texts. -/
theorem of_two (s r : ByteArray) (W : World) (hl : Laid W) (hs : s.size ≤ 1048576) (hr : r.size ≤ 1048576) :
    Calls Tryd.prog 21 #[.slice (some ⟨W.heap.size, 0, none⟩) 2 2] (W.alloc (.cells #[.string s, .string r] 9)) fun e w' => e = .returned (.string (Nib.bs (Sha.sum (s.data.toList ++ r.data.toList)))) ∧ Below W.heap.size W w' := by
  have hw1 : 1 < W.heap.size := by obtain ⟨_, ⟨t1, f1, e1⟩⟩ := hl; exact (Array.getElem?_eq_some_iff.1 e1).1
  have b0 : Bl W.heap.size W (W.alloc (.cells #[.string s, .string r] 9)) := (Bl.start W).alloc _
  refine (of_any W.heap.size 0 2 [s, r] _ (hl.below hw1 b0.1) (by simp) (by simpa using ⟨hs, hr⟩) (by simp) (two_cells W s r _)).mono ?_
  rintro e w' ⟨rfl, hb⟩
  exact ⟨by simp [Sha.cat], (b0.call hb).1⟩
/-- Whether two texts collide. -/
def colB (a b : ByteArray) : Bool := !(a.toList == b.toList) && ((Nib.bs (Sha.sum a.data.toList)).toList == (Nib.bs (Sha.sum b.data.toList)).toList)
set_option maxHeartbeats 1000000 in
theorem collide_any (a b : ByteArray) (W : World) (hl : Laid W) (ha : a.size ≤ 1048576) (hb : b.size ≤ 1048576) :
    Calls Tryd.prog 20 #[.string a, .string b] W fun e w' => e = .returned (.bool (colB a b)) ∧ Below W.heap.size W w' := by
  have hw1 : 1 < W.heap.size := by obtain ⟨_, ⟨t1, f1, e1⟩⟩ := hl; exact (Array.getElem?_eq_some_iff.1 e1).1
  have HL := Lib.hid hl
  clear hl
  cases hab : (a.toList == b.toList) with
  | true =>
    have HC : Hid (colB a b = false) := by
      have : colB a b = false := by rw [colB, hab]; rfl
      exact this
    go_enter Tryd.func20, Tryd.ntmps20
    go_wp2_with fail
    go_ret
    exact ⟨by rw [HC.out]; rfl, Below.refl _ _⟩
  | false =>
    have HC : Hid (colB a b = ((Nib.bs (Sha.sum a.data.toList)).toList == (Nib.bs (Sha.sum b.data.toList)).toList)) := by
      have : colB a b = ((Nib.bs (Sha.sum a.data.toList)).toList == (Nib.bs (Sha.sum b.data.toList)).toList) := by rw [colB, hab]; rfl
      exact this
    go_enter Tryd.func20, Tryd.ntmps20
    go_wp2_with fail
    refine (of_one a _ HL.out ha).mono ?_
    rintro e w1 ⟨rfl, b1⟩
    have B1 := Lib.hid b1
    have L1 := Lib.hid (HL.out.below hw1 b1)
    clear b1
    go_wp2_with fail
    refine (of_one b _ L1.out hb).mono ?_
    rintro e w2 ⟨rfl, b2⟩
    have B2 := Lib.hid b2
    clear b2
    go_wp2_with fail
    go_ret
    exact ⟨ret_bool (by rw [HC.out]), (((Bl.start W).call B1.out).call B2.out).1⟩
theorem collide_ab (W : World) (hl : Laid W) : Calls Tryd.prog 20 #[.string ⟨#[97]⟩, .string ⟨#[98]⟩] W fun e w' => e = .returned (.bool false) ∧ Below W.heap.size W w' := by
  refine (collide_any ⟨#[97]⟩ ⟨#[98]⟩ W hl (by decide) (by decide)).mono ?_
  rintro e w' ⟨rfl, h⟩
  refine ⟨?_, h⟩
  have : colB ⟨#[97]⟩ ⟨#[98]⟩ = false := by
    rw [colB, ByteArray.toList_eq, ByteArray.toList_eq, ByteArray.toList_eq, ByteArray.toList_eq, Nib.bs_data, Nib.bs_data, show (⟨#[97]⟩ : ByteArray).data.toList = [97] from rfl, show (⟨#[98]⟩ : ByteArray).data.toList = [98] from rfl, sha_ab]
    rfl
  rw [this]
theorem collide_aa (W : World) (hl : Laid W) : Calls Tryd.prog 20 #[.string ⟨#[97]⟩, .string ⟨#[97]⟩] W fun e w' => e = .returned (.bool false) ∧ Below W.heap.size W w' := by
  refine (collide_any ⟨#[97]⟩ ⟨#[97]⟩ W hl (by decide) (by decide)).mono ?_
  rintro e w' ⟨rfl, h⟩
  refine ⟨?_, h⟩
  have : colB ⟨#[97]⟩ ⟨#[97]⟩ = false := by simp [colB]
  rw [this]
theorem hex_abc (W : World) : Calls Tryd.prog 22 #[.string (Nib.bs (Sha.sum [97, 98, 99]))] W fun e w' => e = .returned (.string ⟨#[98, 97, 55, 56, 49, 54, 98, 102, 56, 102, 48, 49, 99, 102, 101, 97, 52, 49, 52, 49, 52, 48, 100, 101, 53, 100, 97, 101, 50, 50, 50, 51, 98, 48, 48, 51, 54, 49, 97, 51, 57, 54, 49, 55, 55, 97, 57, 99, 98, 52, 49, 48, 102, 102, 54, 49, 102, 50, 48, 48, 49, 53, 97, 100]⟩) ∧ Below W.heap.size W w' := by
  refine (hex_any (Nib.bs (Sha.sum [97, 98, 99])) W (by rw [Nib.bs_size, Sha.sum, out_length]; simp)).mono ?_
  rintro e w' ⟨rfl, h⟩
  refine ⟨?_, h⟩
  rw [Nib.bs_data, sha_abc]
  rfl
set_option maxHeartbeats 1000000 in
/-- The document's example. -/
theorem works_any (w : World) (hl : Laid w) : Calls Tryd.prog 19 #[] w fun e w' => e = .returned (.bool true) ∧ Below w.heap.size w w' := by
  have hw1 : 1 < w.heap.size := by obtain ⟨_, ⟨t1, f1, e1⟩⟩ := hl; exact (Array.getElem?_eq_some_iff.1 e1).1
  have HL := Lib.hid hl
  clear hl
  obtain ⟨g, hg⟩ : ∃ g, g = w.heap.size := ⟨_, rfl⟩
  have HG := Lib.hid hg
  go_enter Tryd.func19, Tryd.ntmps19
  go_wp2_with fail
  refine (new_any _ HL.out).mono ?_
  rintro e w1 ⟨rfl, h1, b1⟩
  rw [← hg] at h1 b1 hw1 ⊢
  have H1 := Lib.hid h1
  have B1 : Hid (Bl g w w1) := ⟨b1, Nat.le_of_lt h1.lt⟩
  have L1 := Lib.hid (HL.out.below hw1 b1)
  clear h1 b1 hg
  go_wp2_with fail
  refine (write_any g _ _ ⟨#[97]⟩ _ L1.out hw1 (by decide) H1.out).mono ?_
  rintro e w2 ⟨rfl, h2, g2⟩
  have H2 := Lib.hid h2
  have G2 := Lib.hid g2
  have L2 := Lib.hid (L1.out.grown hw1 g2)
  clear h2 g2
  go_wp2_with fail
  refine (write_any g _ _ ⟨#[98, 99]⟩ _ L2.out hw1 (by decide) H2.out).mono ?_
  rintro e w3 ⟨rfl, h3, g3⟩
  have h3' : Hs g [97, 98, 99] (UInt64.ofNat [97, 98, 99].length) w3 := h3
  have H3 := Lib.hid h3'
  have G3 := Lib.hid g3
  have L3 := Lib.hid (L2.out.grown hw1 g3)
  have B3 := Lib.hid ((B1.out.grown G2.out).grown g3)
  clear h3 h3' g3
  go_wp2_with fail
  refine (of_two ⟨#[97]⟩ ⟨#[98, 99]⟩ _ L3.out (by decide) (by decide)).mono ?_
  rintro e w4 ⟨rfl, b4⟩
  have B4 := Lib.hid (B3.out.call b4)
  have h4 : Hs g [97, 98, 99] (UInt64.ofNat [97, 98, 99].length) w4 := H3.out.of_block (b4.block g H3.out.lt)
  have H4 := Lib.hid h4
  have hw3 : 1 < w3.heap.size := Nat.lt_of_lt_of_le hw1 (Nat.le_of_lt H3.out.lt)
  have L4 := Lib.hid (L3.out.below hw3 b4)
  clear b4 h4
  go_wp2_with fail
  refine (hex_abc _).mono ?_
  rintro e w5 ⟨rfl, b5⟩
  have B5 := Lib.hid (B4.out.call b5)
  have h5 : Hs g [97, 98, 99] (UInt64.ofNat [97, 98, 99].length) w5 := H4.out.of_block (b5.block g H4.out.lt)
  have H5 := Lib.hid h5
  have hw4 : 1 < w4.heap.size := Nat.lt_of_lt_of_le hw1 (Nat.le_of_lt H4.out.lt)
  have L5 := Lib.hid (L4.out.below hw4 b5)
  clear b5 h5
  go_wp2_with fail
  refine (sum_any g _ _ L5.out hw1 H5.out).mono ?_
  rintro e w6 ⟨rfl, b6⟩
  have B6 := Lib.hid (B5.out.call b6)
  have hw5 : 1 < w5.heap.size := Nat.lt_of_lt_of_le hw1 (Nat.le_of_lt H5.out.lt)
  have hw6 : 1 < w6.heap.size := Nat.lt_of_lt_of_le hw5 b6.size
  have L6 := Lib.hid (L5.out.below hw5 b6)
  clear b6
  go_wp2_with fail
  refine (hex_abc _).mono ?_
  rintro e w7 ⟨rfl, b7⟩
  have B7 := Lib.hid (B6.out.call b7)
  have hw7 : 1 < w7.heap.size := Nat.lt_of_lt_of_le hw6 b7.size
  have L7 := Lib.hid (L6.out.below hw6 b7)
  clear b7
  go_wp2_with fail
  refine (collide_ab _ L7.out).mono ?_
  rintro e w8 ⟨rfl, b8⟩
  have B8 := Lib.hid (B7.out.call b8)
  have L8 := Lib.hid (L7.out.below hw7 b8)
  clear b8
  go_wp2_with fail
  refine (collide_aa _ L8.out).mono ?_
  rintro e w9 ⟨rfl, b9⟩
  have B9 := Lib.hid (B8.out.call b9)
  clear b9
  go_wp2_with fail
  go_ret
  exact ⟨rfl, by rw [← HG.out]; exact B9.out.1⟩
end Go.Proofs.YtgeonbkoihegnaaDoor

/-
  The document's Text, List of rlp.
-/
import Derived.Test.YtlbebdkockejcaaGreatDoorRefRlpW
namespace Go.Proofs.YtlbebdkockejcaaGreatDoor
open Go.RowKit Go.Proofs.Rlp
set_option linter.unusedVariables false
set_option linter.unusedSimpArgs false
theorem one_list {b : ByteArray} (h : b.size = 1) : b.data.toList = [b[0]'(by omega)] := by
  apply List.ext_getElem
  · rw [Array.length_toList]; exact h
  · intro i h1 h2
    have : i = 0 := by simp at h2; omega
    subst this
    rfl
theorem text_wrap {b : ByteArray} (h : own b.data.toList = false) : Nod.textB b = Nib.bs (head 128 b.size) ++ b := by
  unfold Nod.textB Rlp.text
  rw [h, if_neg (by decide), Nib.bs_append, Nib.bs_of, Nib.len_of]
set_option maxRecDepth 100000 in
set_option maxHeartbeats 2000000 in
theorem rtext_any (b : ByteArray) (w : World) (hb : b.size ≤ 1048576) :
    Calls Tryz.prog 33 #[.string b] w fun e w' => e = .returned (.string (Nod.textB b)) ∧ Below w.heap.size w w' := by
  have WR := Lib.hid (rwrap_any b 128 w hb (by decide))
  by_cases h1 : b.size = 1
  · by_cases h2 : b[0]'(by omega) < 128
    · rw [text_own (by rw [one_list h1]; exact decide_eq_true h2)]
      have i0 : 0 < b.size := by omega
      have i1 : (b.size : Int) = 1 := by omega
      have i2 : ((b[0]'(by omega)).toNat : Int) < 128 := by have : (b[0]'(by omega)).toNat < 128 := h2; omega
      clear WR h2 h1
      go_enter Tryz.func33, Tryz.ntmps33
      go_wp2_with fail
      go_ret
      exact ⟨rfl, Below.refl _ _⟩
    · rw [text_wrap (by rw [one_list h1]; exact decide_eq_false h2)]
      have i0 : 0 < b.size := by omega
      have i1 : (b.size : Int) = 1 := by omega
      have i2 : ¬ ((b[0]'(by omega)).toNat : Int) < 128 := by have : ¬ (b[0]'(by omega)).toNat < 128 := h2; omega
      generalize Nib.bs (head 128 b.size) ++ b = T at *
      clear h2 h1
      go_enter Tryz.func33, Tryz.ntmps33
      go_wp2_with fail
      refine WR.out.mono ?_
      rintro e w1 ⟨rfl, hb1⟩
      go_wp2_with fail
      go_ret
      exact ⟨rfl, hb1⟩
  · have ho : own b.data.toList = false := by
      have hl : b.data.toList.length ≠ 1 := by rw [Nib.len_of]; exact h1
      rcases hd : b.data.toList with _ | ⟨x, _ | ⟨y, r⟩⟩
      · rfl
      · rw [hd] at hl; exact absurd rfl hl
      · rfl
    rw [text_wrap ho]
    have i1 : ¬ (b.size : Int) = 1 := by omega
    generalize Nib.bs (head 128 b.size) ++ b = T at *
    clear ho h1
    go_enter Tryz.func33, Tryz.ntmps33
    go_wp2_with fail
    refine WR.out.mono ?_
    rintro e w1 ⟨rfl, hb1⟩
    go_wp2_with fail
    go_ret
    exact ⟨rfl, hb1⟩
set_option maxRecDepth 100000 in
set_option maxHeartbeats 2000000 in
theorem rlist_any {w : World} {A : Option Addr} {l : List ByteArray} (c : Nat) (h : Strs w A l) (hl : l.length ≤ 1000) (hs : (l.map (·.data.toList)).flatten.length ≤ 1000000) :
    Calls Tryz.prog 31 #[.slice A l.length c] w fun e w' => e = .returned (.string (Nod.listB l)) ∧ Below w.heap.size w w' := by
  have JO := Lib.hid (rjoin_any c h hl hs)
  have WR := Lib.hid (rwrap_any (Nib.bs (l.map (·.data.toList)).flatten) 192 w (by rw [Nib.bs_size]; omega) (by decide))
  have e : Nod.listB l = Nib.bs (head 192 (Nib.bs (l.map (·.data.toList)).flatten).size) ++ Nib.bs (l.map (·.data.toList)).flatten := by
    unfold Nod.listB Rlp.list
    rw [Nib.bs_append, Nib.bs_size]
  rw [e]
  generalize Nib.bs (head 192 (Nib.bs (l.map (·.data.toList)).flatten).size) ++ Nib.bs (l.map (·.data.toList)).flatten = T at *
  generalize Nib.bs (l.map (·.data.toList)).flatten = J at *
  clear h hl hs e
  go_enter Tryz.func31, Tryz.ntmps31
  go_wp2_with fail
  refine JO.out.mono ?_
  rintro e w1 ⟨rfl, rfl⟩
  go_wp2_with fail
  refine WR.out.mono ?_
  rintro e w2 ⟨rfl, hb1⟩
  go_wp2_with fail
  go_ret
  exact ⟨rfl, hb1⟩
end Go.Proofs.YtlbebdkockejcaaGreatDoor

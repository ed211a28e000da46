import Derived.Test.YtgeonbkoihegnaaDoorRlpSplit
import Derived.Test.YtgeonbkoihegnaaDoorShelf
namespace Go.Proofs.Rlp
theorem join_nil (l : List (List UInt8)) : Lib.join l [] = l.flatten := by
  cases l with
  | nil => rfl
  | cons x r => rw [Lib.join_cons, Lib.joinTail]; simp
end Go.Proofs.Rlp
namespace Go.Proofs.YtgeonbkoihegnaaDoor
open Go.RowKit
set_option linter.unusedVariables false
set_option linter.unusedSimpArgs false
/-- The texts, as lists of bytes. -/
def datas (xs : List ByteArray) : List (List UInt8) := xs.map (·.data.toList)
set_option maxRecDepth 100000 in
set_option maxHeartbeats 1000000 in
/-- rlp.List of items in a row. -/
theorem list_any (bk o c : Nat) (xs : List ByteArray) (w : World) (hcells : ∀ (j : Nat) x, xs[j]? = some x → w.cell? ⟨bk, o + j, none⟩ = some (.string x)) (hbk : bk < w.heap.size) (hN : xs.length ≤ 140737488355328) (hcap : xs.length ≤ c) (hlen : (datas xs).flatten.length ≤ 70368744177664) :
    Calls Tryd.prog 16 #[.slice (some ⟨bk, o, none⟩) xs.length c] w fun e w' => e = .returned (.string (Nib.bs (Rlp.list (datas xs)))) ∧ Below w.heap.size w w' := by
  have hj := Tryd.strings_Join bk o c xs ⟨#[]⟩ w hcells hbk hN hcap (by
    show (Lib.join (datas xs) []).length ≤ _
    rw [Rlp.join_nil]; omega)
  obtain ⟨b, hb⟩ : ∃ b, b = (datas xs).flatten := ⟨_, rfl⟩
  have hbs : (⟨(Lib.join (xs.map (·.data.toList)) (⟨#[]⟩ : ByteArray).data.toList).toArray⟩ : ByteArray) = Nib.bs b := by
    show (⟨(Lib.join (datas xs) []).toArray⟩ : ByteArray) = _
    rw [Rlp.join_nil, hb]; rfl
  rw [hbs] at hj
  have hL : Rlp.list (datas xs) = Rlp.head 192 b.length ++ b := by rw [Rlp.list, hb]
  rw [hL]
  rw [← hb] at hlen
  have hBs : (Nib.bs b).size = b.length := Nib.bs_size b
  have hh := fun W : World => head_any 192 b.length W (by omega) (by omega)
  have hHs : (Nib.bs (Rlp.head 192 b.length)).size ≤ 9 := by rw [Nib.bs_size]; exact Rlp.head_length _ _
  rw [Nib.bs_append]
  obtain ⟨n, hn⟩ : ∃ n, n = b.length := ⟨_, rfl⟩
  simp only [← hn] at hh hHs hBs hlen ⊢
  obtain ⟨H, hH⟩ : ∃ H, H = Nib.bs (Rlp.head 192 n) := ⟨_, rfl⟩
  obtain ⟨B, hB⟩ : ∃ B, B = Nib.bs b := ⟨_, rfl⟩
  simp only [← hH, ← hB] at hh hHs hBs hj ⊢
  have HJ := Lib.hid hj
  have HHH := Lib.hid hh
  clear hcells hj hh hH hB hL hbs hb hn
  go_enter Tryd.func16, Tryd.ntmps16
  go_wp2_with fail
  refine HJ.out.mono ?_
  rintro e w1 ⟨rfl, bw⟩
  have BW := Lib.hid bw
  clear bw
  go_wp2_with fail
  refine (HHH.out _).mono ?_
  rintro e w2 ⟨rfl, bw2⟩
  have BW2 := Lib.hid bw2
  clear bw2
  go_wp2_with fail
  go_ret
  exact ⟨rfl, BW.out.trans (BW2.out.mono BW.out.size)⟩
set_option maxRecDepth 100000 in
set_option maxHeartbeats 1000000 in
/-- rlp.List of no item. -/
theorem list_none (a : Option Addr) (c : Nat) (w : World) :
    Calls Tryd.prog 16 #[.slice a 0 c] w fun e w' => e = .returned (.string (Nib.bs (Rlp.list []))) ∧ Below w.heap.size w w' := by
  have HJ := Lib.hid (Tryd.strings_Join_none a c ⟨#[]⟩ w)
  have hh := head_any 192 0 w (by omega) (by omega)
  have HHH := Lib.hid hh
  go_enter Tryd.func16, Tryd.ntmps16
  go_wp2_with fail
  refine HJ.out.mono ?_
  rintro e w1 ⟨rfl, rfl⟩
  go_wp2_with fail
  refine HHH.out.mono ?_
  rintro e w2 ⟨rfl, bw2⟩
  have BW2 := Lib.hid bw2
  clear bw2
  go_wp2_with fail
  go_ret
  exact ⟨rfl, BW2.out⟩
end Go.Proofs.YtgeonbkoihegnaaDoor

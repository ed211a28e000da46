/-
  A node's bytes that end too early, or have something behind them.
-/
import Derived.Test.YtfeonjiiijdibaaGreatDoorGaNodeD
namespace Go.Proofs.YtfeonjiiijdibaaGreatDoor
open Go.RowKit Go.Proofs.Nod
theorem gB_bad {s : ByteArray} {e : Nat} (h : Rlp.first s.data.toList = .error e) : gB s = none := by
  rw [show gB s = getK itemsB gB s from getB_eq s]
  unfold getK readB splitB
  rw [h]
theorem cut_none {s : ByteArray} (h : Item s) (k : Nat) (hk : k < s.size) : gB (s.extract 0 k) = none := by
  obtain ⟨l, f, n, h1, h2⟩ := h
  obtain ⟨e, he⟩ := Rlp.first_cut h1 (by simpa using h2) k (by simpa using hk)
  refine gB_bad (e := e) ?_
  rw [Lib.extract_data]
  simpa using he
theorem more_none {s m : ByteArray} (h : Item s) (hm : ¬ m = e0) : gB (s ++ m) = none := by
  rcases hg : gB (s ++ m) with _ | o
  · rfl
  · exfalso
    obtain ⟨o1, o2, o3, _⟩ := g_facts hg
    obtain ⟨l', f', n', h3, h4⟩ := (back_read o o1 o3).2.2
    obtain ⟨l, f, n, h1, h2⟩ := h
    rw [o2] at h3 h4
    rw [Nib.data_append, Rlp.first_append h1] at h3
    simp only [Except.ok.injEq, Prod.mk.injEq] at h3
    have hs : m.size ≠ 0 := by
      intro e
      apply hm
      apply ByteArray.ext
      apply Array.toList_inj.1
      have : m.data.toList.length = 0 := by simpa using e
      rw [List.eq_nil_of_length_eq_zero this]
      rfl
    rw [ByteArray.size_append] at h4
    omega
theorem item_pos {s : ByteArray} (h : Item s) : 1 ≤ s.size := by
  obtain ⟨l, f, n, h1, h2⟩ := h
  rcases hd : s.data.toList with _ | ⟨a, r⟩
  · rw [hd] at h1; cases h1
  · have : s.data.toList.length = s.size := by simp
    rw [hd] at this
    simp at this
    omega
end Go.Proofs.YtfeonjiiijdibaaGreatDoor

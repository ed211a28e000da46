/-
  Package cache: Keys.
-/
import Derived.Test.YtplahkhohhbgaaaCacheOps
namespace Go.Proofs.Cch
def keysF (ts : Things) : List ByteArray := ts.map Prod.fst
end Go.Proofs.Cch
namespace Go.Proofs.Ytplahkhohhbgaaa
open Go.RowKit Go.Proofs.Cch
set_option linter.unusedVariables false
set_option linter.unusedSimpArgs false
section
variable {w0 : World} {g sz : Nat} {v : Value} {m : Nat} {ts : Things} {cs : Counts} {ask : Nat} {w w' : World}
set_option maxRecDepth 100000 in
set_option maxHeartbeats 1000000 in
theorem keys_any (h : Cs w0 g sz v m ts cs ask w) :
    Calls Try.prog 25 #[.pointer (some ⟨g, 0, none⟩)] w fun e w' => ∃ v', e = .returned v' ∧ w'.ownsRow w.heap.size 9 1 v' (keysF ts).length ((keysF ts).map Value.string) ∧ Below w.heap.size w w' := by
  obtain ⟨A, c, rfl, _, hT⟩ := h.row.th
  have c1 : w.cell? ⟨g, 1, none⟩ = some (.slice A ts.length c) := by rw [h.blk.cell]; rfl
  have hl : ts.length ≤ 1000 := by have := h.len; have := h.top; omega
  have HT := Lib.hid hT
  clear h hT
  go_enter Try.func25, Try.ntmps25
  go_wp2_with fail
  go_loopw [3, 11] (fun vo vi wr => ∃ k : Nat, vi = .int .i64 (k : Int) ∧ k ≤ ts.length ∧ Hid (wr.ownsRow w.heap.size 9 1 vo (keysF (ts.take k)).length ((keysF (ts.take k)).map Value.string)) ∧ Hid (Bl w.heap.size w wr)) (fun _ vi _ => ts.length - (intOf vi).toNat)
  case atStart => exact ⟨0, rfl, Nat.zero_le _, Lib.hid ⟨rfl, .inl ⟨rfl, rfl⟩⟩, Lib.hid (Bl.start w)⟩
  case round =>
    obtain ⟨k, rfl, hk, HO, HB⟩ := hrel
    by_cases hlt : k < ts.length
    · obtain ⟨⟨tk, tv⟩, ht⟩ : ∃ t, ts[k]? = some t := ⟨_, List.getElem?_eq_getElem hlt⟩
      obtain ⟨b, o, rfl, _, d0, d1⟩ := (HT.out.below HB.out.1).at_ k _ ht
      simp only at d0 d1
      have i1 : (k : Int) < (ts.length : Int) := by omega
      have wk : IntKind.i64.wrap ((k : Int) + 1) = (k : Int) + 1 := IntWalk.i64_in _ (by omega)
      have hks : keysF (ts.take (k + 1)) = keysF (ts.take k) ++ [tk] := by
        unfold keysF
        rw [List.take_add_one, ht, List.map_append]
        rfl
      have hkl : (keysF (ts.take k)).length = k := by unfold keysF; rw [List.length_map, List.length_take]; omega
      have HKS := Lib.hid hks
      have N1 : Hid ((keysF (ts.take k)).length + [tk].length ≤ 1000000) := Lib.hid (by rw [hkl]; simp; omega)
      have N2 : Hid (w.heap.size ≤ ((wr.alloc (.cells #[.string tk, .string tv] 83)).alloc (.cells #[.string tk] 9)).heap.size) := Lib.hid (by have := HB.out.2; simp; omega)
      have B1 : Hid (Bl w.heap.size w ((wr.alloc (.cells #[.string tk, .string tv] 83)).alloc (.cells #[.string tk] 9))) := Lib.hid ((HB.out.alloc _).alloc _)
      have S1 : Hid (Sl ((wr.alloc (.cells #[.string tk, .string tv] 83)).alloc (.cells #[.string tk] 9)) (.slice (some ⟨wr.heap.size + 1, 0, none⟩) 1 1) [tk]) := Lib.hid (by
        have := one_lit (wr.alloc (.cells #[.string tk, .string tv] 83)) tk
        rw [show (wr.alloc (.cells #[.string tk, .string tv] 83)).heap.size = wr.heap.size + 1 by simp] at this
        exact this)
      clear ht hks hkl
      go_wp2_with (at_builtin; (refine wpList_append_strs rfl _ _ rfl rfl w.heap.size _ _ (keysF (ts.take k)) [tk] rfl rfl (World.ownsRow.alloc (World.ownsRow.alloc HO.out _) _) S1.out N1.out N2.out ?_; intro v5 w5 own5 gr5 _; have b5 := B1.out.grownRow (World.ownsRow.alloc (World.ownsRow.alloc HO.out _) _) (Nat.le_refl _) gr5; have B5 := Lib.hid b5; have O5 := Lib.hid own5; clear own5 gr5 b5))
      refine ⟨⟨k + 1, by go_num, by omega, Lib.hid ?_, B5⟩, by simp [intOf]; omega⟩
      rw [HKS.out]
      exact O5.out
    · obtain rfl : k = ts.length := by omega
      go_wp2_with fail
      go_ret
      have := HO.out
      rw [List.take_length] at this
      exact ⟨_, rfl, this, HB.out.1⟩
end
end Go.Proofs.Ytplahkhohhbgaaa

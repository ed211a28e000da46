/-
  Package mesh: All, Count.
-/
import Derived.Test.YtplahkhohhbgaaaMeshMove
import Derived.Laws.MakeOwn
namespace Go.Proofs.Ytplahkhohhbgaaa
open Go.RowKit
set_option linter.unusedVariables false
set_option linter.unusedSimpArgs false
theorem infoStr : (Try.prog.info? 9).map (fun i => (i.zero, i.size, i.bytes)) = some (some (.string ⟨#[]⟩), 1, 16) := by kernel_rfl
set_option maxRecDepth 100000 in
set_option maxHeartbeats 1000000 in
theorem mall_any (B g : Nat) (r : Int) (v : Value) (xs : List ByteArray) (w : World) (hM : Mh B g r v xs w) (hl : xs.length ≤ 1000) :
    Calls Try.prog 36 #[.pointer (some ⟨g, 0, none⟩)] w fun e w' => e = .returned (.slice (some ⟨w.heap.size, 0, none⟩) xs.length xs.length) ∧ Sl w' (.slice (some ⟨w.heap.size, 0, none⟩) xs.length xs.length) xs ∧ Below w.heap.size w w' := by
  obtain ⟨A, c, rfl, _, _, _⟩ := hM.shape
  have c1 : w.cell? ⟨g, 1, none⟩ = some (.slice A xs.length c) := by rw [hM.1.cell]; rfl
  have HM := Lib.hid hM
  clear hM
  have hmk : ∀ w : World, (Instr.makeSlice 44 (.int .i64 (xs.length : Int)) (.int .i64 (xs.length : Int))).run Try.prog w = .ok (.slice (some ⟨w.heap.size, 0, none⟩) xs.length xs.length) (w.alloc (.cells (madeCells #[.string ⟨#[]⟩] xs.length) 9)) := fun w => by
    exact run_make_row' (P := Try.prog) 44 9 (.string ⟨#[]⟩) 16 Try.underlying44 infoStr rfl .i64 .i64 xs.length (by omega) (by omega) w
  have hcells : ∀ w : World, (w.alloc (.cells (madeCells #[.string ⟨#[]⟩] xs.length) 9)).heap[w.heap.size]? = some (.cells (List.replicate xs.length (Value.string ⟨#[]⟩)).toArray 9) := fun w => by
    have : madeCells #[.string ⟨#[]⟩] xs.length = (List.replicate xs.length (Value.string ⟨#[]⟩)).toArray := by
      apply Array.ext
      · simp [size_madeCells]
      · intro i h1 h2
        simp [madeCells, Nat.mod_one]
    rw [this]
    show (w.heap.push _)[w.heap.size]? = some _
    simp
  have HCL := Lib.hid hcells
  have d1 : (w.alloc (.cells (madeCells #[.string ⟨#[]⟩] xs.length) 9)).cell? ⟨g, 1, none⟩ = some (.slice A xs.length c) := by rw [(HM.out.1.alloc _).cell]; rfl
  have hsrc : ∀ j v, (xs.map Value.string)[j]? = some v → ∃ b, A = some ⟨b, 0, none⟩ ∧ b < w.heap.size ∧ w.cell? ⟨b, j, none⟩ = some v := by
    intro j v hv
    rw [List.getElem?_map] at hv
    obtain ⟨x, hx, rfl⟩ := Option.map_eq_some_iff.1 hv
    obtain ⟨k, cap, he, hc⟩ := own_cell HM.out.2.1 hx
    cases he
    exact ⟨k, rfl, by
      rcases Nat.lt_or_ge k w.heap.size with h | h
      · exact h
      · simp [World.cell?, h] at hc, hc⟩
  have HS := Lib.hid hsrc
  clear hcells hsrc
  go_enter Try.func36, Try.ntmps36
  have hlen : (xs.map Value.string).length = Nat.min xs.length xs.length := by simp
  have hfit : 0 + (xs.map Value.string).length ≤ (List.replicate xs.length (Value.string ⟨#[]⟩)).length := by simp
  have hone : ∀ v ∈ xs.map Value.string, v.oneCell' = true := by intro v hv; obtain ⟨x, _, rfl⟩ := List.mem_map.1 hv; rfl
  have hpos : 0 < (xs.map Value.string).length → (some ⟨w.heap.size, 0, none⟩ : Option Addr) = some ⟨w.heap.size, 0, none⟩ ∧ ∃ ad, A = some ad ∧ ∀ j v, (xs.map Value.string)[j]? = some v → (w.alloc (.cells (madeCells #[.string ⟨#[]⟩] xs.length) 9)).cell? (ad.add j) = some v := by
    intro h
    obtain ⟨b, hb, _, _⟩ := HS.out 0 _ (List.getElem?_eq_getElem h)
    refine ⟨rfl, ⟨b, 0, none⟩, hb, ?_⟩
    intro j v hv
    obtain ⟨b', hb', hlt, hc⟩ := HS.out j v hv
    rw [hb] at hb'
    cases hb'
    rw [Addr.add_mid, Nat.zero_add, ← hc]
    exact World.cell?_of_block (a := ⟨b, j, none⟩) (Below.heap_alloc w _ b hlt)
  have HLEN := Lib.hid hlen
  have HFIT := Lib.hid hfit
  have HONE := Lib.hid hone
  have HPOS := Lib.hid hpos
  clear hlen hfit hone hpos
  go_wp2_with ((refine wpList_copy_in rfl (.tmp 10) (.tmp 14) rfl (some ⟨w.heap.size, 0, none⟩) A xs.length xs.length xs.length c rfl rfl w.heap.size 0 (List.replicate xs.length (Value.string ⟨#[]⟩)) (xs.map Value.string) (HCL.out w) HLEN.out HPOS.out HFIT.out HONE.out ?_))
  intro W2 hk F2
  have hsp : splice (List.replicate xs.length (Value.string ⟨#[]⟩)) 0 (xs.map Value.string) = xs.map Value.string := by
    unfold splice
    simp
  rw [hsp] at hk
  have HF := Lib.hid F2
  clear F2
  go_wp2_with fail
  go_ret
  refine ⟨rfl, ⟨_, _, rfl, ?_, fun h => by cases h⟩, ?_⟩
  · by_cases h0 : xs = []
    · exact .inl h0
    · refine .inr ⟨_, 0, rfl, ?_, ?_⟩
      · have := HF.out.size
        simp at this
        omega
      · intro j x hx
        rw [Nat.zero_add, cell_list hk.out, List.getElem?_map, hx]
        rfl
  · exact Below.trans ((Below.refl _ _).alloc (Nat.le_refl _) _) (HF.out.below (by simp) (fun i hi => by omega))
end Go.Proofs.Ytplahkhohhbgaaa

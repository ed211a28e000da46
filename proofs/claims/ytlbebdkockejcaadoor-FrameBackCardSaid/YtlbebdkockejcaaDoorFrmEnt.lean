/-
  Package frame: an entry, and a change, is read.
-/
import Derived.Test.YtlbebdkockejcaaDoorFrmFill
import Derived.Test.YtlbebdkockejcaaDoorFrmBox
import Derived.Deep.Cut
import Derived.Deep.CutBlock
namespace Go.Proofs.YtlbebdkockejcaaDoor
open Go.RowKit Go.Proofs.Frm Go.Proofs.Mdl
set_option linter.unusedVariables false
set_option linter.unusedSimpArgs false
theorem isAggE (w : World) : (isAgg 55).run Tryd.prog w = .ok true w := by kernel_rfl
theorem sizeE (w : World) : (sizeOf 55).run Tryd.prog w = .ok 2 w := by kernel_rfl
theorem isAggC (w : World) : (isAgg 57).run Tryd.prog w = .ok true w := by kernel_rfl
theorem sizeC (w : World) : (sizeOf 57).run Tryd.prog w = .ok 3 w := by kernel_rfl
set_option maxRecDepth 100000 in
set_option maxHeartbeats 2000000 in
/-- An entry is read. -/
theorem entR_any {M b : Nat} {r : Rd} {w : World} (h : Rm M w b r) (hM : M ≤ w.heap.size) (hl : Laid2 w) (hg : 0 ≠ b) :
    Calls Tryd.prog 52 #[.pointer (some ⟨b, 0, none⟩)] w fun e w' => e = .returned (.agg #[.string (entR r).1.k, .string (entR r).1.v]) ∧ Rm M w' b (entR r).2 ∧ Far (fun i => i = b) w w' := by
  obtain ⟨w2, g, p, hw, hg0, hp, hb, b1, b2, hz⟩ := boxes2 w 55 55 #[.string ⟨#[]⟩, .string ⟨#[]⟩] #[.string ⟨#[]⟩, .string ⟨#[]⟩]
  have hlt := h.lt
  have hgl := hl.lt
  have n1 : g ≠ b ∧ p ≠ b ∧ p ≠ g ∧ w.heap.size ≤ g ∧ w.heap.size ≤ p ∧ p ≠ w2.heap.size ∧ g ≠ w2.heap.size ∧ 0 ≠ p ∧ 0 ≠ g ∧ b ≠ w2.heap.size := by omega
  have FT := Lib.hid (fillText_any (M := M) (r := r) (w := w2.alloc (.cells #[.pointer (some ⟨p, 0, none⟩), .pointer (some ⟨p, 1, none⟩)] 99)) (bk := w2.heap.size) (o := 0) (c := 2) (ps := [⟨p, 0, none⟩, ⟨p, 1, none⟩]) (h.below (hb.alloc (by omega) _)) (hl.on (hb.alloc (by omega) _) (Nat.le_refl _)) hg (by intro q hq; simp only [List.mem_cons, List.not_mem_nil, or_false] at hq; rcases hq with rfl | rfl <;> simp only <;> omega)
    (by intro q hq; simp only [List.mem_cons, List.not_mem_nil, or_false] at hq; rcases hq with rfl | rfl <;> exact ⟨⟨rfl, _, _, b2.alloc _, by simp⟩, by simp only; omega⟩) (by omega) (by intro q hq; simp only [List.mem_cons, List.not_mem_nil, or_false] at hq; rcases hq with rfl | rfl <;> simp only <;> omega) (by simp) (by simp)
    (by
      intro j q hq
      rw [Nat.zero_add, (Blk.new w2 _ _).cell]
      match j, hq with
      | 0, hq => cases hq; rfl
      | 1, hq => cases hq; rfl
      | j + 2, hq => simp at hq))
  have B1 := Lib.hid (b1.alloc (.cells #[.pointer (some ⟨p, 0, none⟩), .pointer (some ⟨p, 1, none⟩)] 99))
  have B2 := Lib.hid (b2.alloc (.cells #[.pointer (some ⟨p, 0, none⟩), .pointer (some ⟨p, 1, none⟩)] 99))
  have HB := Lib.hid (hb.alloc (by omega) (.cells #[.pointer (some ⟨p, 0, none⟩), .pointer (some ⟨p, 1, none⟩)] 99))
  have NE := Lib.hid n1
  have HM := Lib.hid hM
  clear h hM hl hg b1 b2 hb hlt hgl n1 hz
  go_enter Tryd.func52, Tryd.ntmps52
  go_upto_region 2 with (fail)
  rw [← hw, ← hp, ← hg0]
  clear hw hp hg0
  go_upto_region 3 with (first
    | (go_at_call 49; refine FT.out.mono ?_; rintro e w4 ⟨rfl, hr, hF⟩; skip))
  have hpth : ∀ q ∈ ([⟨p, 0, none⟩, ⟨p, 1, none⟩] : List Addr), q.spot = none := by intro q hq; simp only [List.mem_cons, List.not_mem_nil, or_false] at hq; rcases hq with rfl | rfl <;> rfl
  have bp := hF.blk hpth (X := p) NE.out.2.1 B2.out
  have bg := hF.blk hpth (X := g) NE.out.1 B1.out
  simp only [fillC, if_true, if_neg NE.out.2.2.1] at bp bg
  have R4 := Lib.hid hr
  have F4 := Lib.hid hF.far
  clear hr hF hpth
  have BG := Lib.hid bg
  have p0 := bp.cell 0
  have p1 := bp.cell 1
  have g0 := bg.cell 0
  have g1 := bg.cell 1
  have fg0 := bg.frozen 0
  have fg1 := bg.frozen 1
  clear bp bg
  simp at p0 p1 g0 g1
  go_wp2_with fail
  have h5 : Blk ((w4.setCell ⟨g, 0, none⟩ (.string (rdText r).1)).setCell ⟨g, 1, none⟩ (.string (rdText (rdText r).2).1)) g 55 [Value.string (rdText r).1, Value.string (rdText (rdText r).2).1].toArray := (BG.out.set 0 _).set 1 _
  have f5 : Far (fun i => i = g) w4 ((w4.setCell ⟨g, 0, none⟩ (.string (rdText r).1)).setCell ⟨g, 1, none⟩ (.string (rdText (rdText r).2).1)) := (set_far _ _ _ _).trans (set_far _ _ _ _) (fun _ _ e => e)
  refine bodyPost_ret (results_b1 rfl isAggE sizeE _ _ g rfl h5 rfl) rfl ?_
  have hM := HM.out
  obtain ⟨n0, n1, n2, n3, n4, -⟩ := NE.out
  have f1 : Far (fun i => i = b) w w4 := ((far_of_below HB.out).mono (S' := fun i => i = b) (fun _ _ e => e.elim)).trans F4.out (fun i hi e => by
    rcases e with e | ⟨q, hq, e⟩
    · exact e
    · simp only [List.mem_cons, List.not_mem_nil, or_false] at hq
      rcases hq with rfl | rfl <;> (simp only at e; omega))
  exact ⟨rfl, R4.out.far f5 (fun e => n0 e.symm) (fun i hi _ e => by omega), f1.trans f5 (fun i hi e => by omega)⟩
end Go.Proofs.YtlbebdkockejcaaDoor

/-
  Package feed: a notice of a session.
-/
import Derived.Test.YtjladlniilacjaaFeePop
namespace Go.Proofs.Ytjladlniilacjaa
open Go.RowKit Go.Shelf Go.Proofs.Fee
set_option linter.unusedVariables false
set_option linter.unusedSimpArgs false
theorem infoChg : (Try.prog.info? 142).map (fun i => (i.zero, i.size, i.bytes)) = some (some (.agg #[.string ⟨#[]⟩, .string ⟨#[]⟩, .bool false]), 3, 40) := by kernel_rfl
theorem flatC_one (cs : List Chg) : ∀ u ∈ flatC cs, u.oneCell' = true := by
  intro u hu
  obtain ⟨c, _, h⟩ := List.mem_flatMap.1 hu
  simp at h
  rcases h with rfl | rfl | rfl <;> rfl
theorem chs_own {w : World} {B : Nat} {v : Value} {cs : List Chg} (h : w.ownsRow B 142 3 v cs.length (flatC cs)) : Chs w v cs := by
  rcases h.2 with ⟨h1, h2⟩ | ⟨g, cap, cur, h1, h2, h3, h4, h5, h6, h7⟩
  · exact .inl ⟨h1, List.length_eq_zero_iff.1 h2⟩
  · exact .inr ⟨g, cap, cur, h1, h4, h3, h7⟩
/-- slices.Clone of changes. -/
theorem clone_chs {w : World} {v : Value} {cs : List Chg} (h : Chs w v cs) (hl : cs.length ≤ 100000) :
    Calls Try.prog 81 #[v] w fun e w' => ∃ v', e = .returned v' ∧ Chs w' v' cs ∧ Below w.heap.size w w' := by
  rcases h with ⟨rfl, rfl⟩ | ⟨g, cap, cur, rfl, h2, h3, h4⟩
  · have := AnyE.slices_Clone_nil Try.feeClone 0 0 w
    change Calls Try.prog 81 _ _ _ at this
    refine this.mono ?_
    rintro e w' ⟨rfl, rfl⟩
    exact ⟨_, rfl, .inl ⟨rfl, rfl⟩, Below.refl _ _⟩
  · obtain ⟨i0, hi, hz0, hz1, hz2⟩ := info_partsF infoChg
    have := AnyE.slices_Clone Try.feeClone i0 _ 3 40 hi hz0 hz1 hz2 rfl (by decide) (fun W => by show (sizeOf 142).run Try.prog W = _; exact Try.sizeOf142 W) g 0 cs.length cap (flatC cs) w (flatC_length cs) (by simp [maxLen]; omega) (by omega) (fun j u hj => by
      have hlt := (List.getElem?_eq_some_iff.1 hj).1
      rw [flatC_length] at hlt
      rw [Nat.zero_add, h3.cell, ← Array.getElem?_toList]
      rw [← h4, List.getElem?_take_of_lt hlt] at hj
      exact hj) (flatC_one cs)
    change Calls Try.prog 81 _ _ _ at this
    refine this.mono ?_
    rintro e w' ⟨v', rfl, hr, _, hb⟩
    exact ⟨v', rfl, chs_own hr, hb⟩
set_option maxRecDepth 100000 in
set_option maxHeartbeats 2000000 in
theorem notice_any (n : Ntc) (s : Int) (A : Option Addr) (k c : Nat) (v : Value) (cs : List Chg) (w : World) (h : Chs w v cs) (hl : cs.length ≤ 100000) :
    Calls Try.prog 69 #[.agg #[.int .i64 n.ses, .int .i64 n.err, .int .i64 n.block, .string n.root, .slice A k c], .int .i64 s, v] w fun e w' => ∃ v', e = .returned (.agg #[.int .i64 s, .int .i64 n.err, .int .i64 n.block, .string n.root, v']) ∧ Chs w' v' cs ∧ Below w.heap.size w w' := by
  obtain ⟨w1, hw1⟩ : ∃ w1, w1 = w.alloc (.cells #[.int .i64 n.ses, .int .i64 n.err, .int .i64 n.block, .string n.root, .slice A k c] 63) := ⟨_, rfl⟩
  obtain ⟨w2, hw2⟩ : ∃ w2, w2 = w1.alloc (.cells #[.int .i64 0, .int .i64 0, .int .i64 0, .string ⟨#[]⟩, .slice none 0 0] 63) := ⟨_, rfl⟩
  have b1 : Below w.heap.size w w1 := by rw [hw1]; exact (Below.refl _ w).alloc (Nat.le_refl _) _
  have s1 : w1.heap.size = w.heap.size + 1 := by rw [hw1]; simp
  have b2 : Below w.heap.size w w2 := by rw [hw2]; exact b1.alloc (by omega) _
  have s2 : w2.heap.size = w.heap.size + 2 := by rw [hw2]; simp; omega
  have CL := Lib.hid (clone_chs (h.below b2) hl)
  obtain ⟨vA, vn, vc, rfl⟩ := h.slice
  have P2 : Hid (Blk w2 w.heap.size 63 #[.int .i64 n.ses, .int .i64 n.err, .int .i64 n.block, .string n.root, .slice A k c]) := Lib.hid (by
    rw [hw2, hw1]
    exact (Blk.new w 63 _).alloc _)
  have R2 : Hid (Blk w2 (w.heap.size + 1) 63 #[.int .i64 0, .int .i64 0, .int .i64 0, .string ⟨#[]⟩, .slice none 0 0]) := Lib.hid (by
    have := Blk.new w1 63 #[.int .i64 0, .int .i64 0, .int .i64 0, .string ⟨#[]⟩, .slice none 0 0]
    rw [← hw2, s1] at this
    exact this)
  have B2 := Lib.hid b2
  have S2 := Lib.hid s2
  rw [hw2, hw1] at CL P2 R2 B2 S2
  clear h b1 s1 b2 s2 hw1 hw2
  go_enter Try.func69, Try.ntmps69
  go_wp2_with (go_at_call 81; refine CL.out.mono ?_; rintro e w3 ⟨v', rfl, hch, hb⟩; obtain ⟨A3, n3, c3, rfl⟩ := hch.slice; have hp := P2.out.below hb; have hr := R2.out.below hb; have HCH := Lib.hid hch; have B3 := Lib.hid (B2.out.trans (hb.mono B2.out.size)); have p0 := hp.cell 0; have p1 := hp.cell 1; have p2 := hp.cell 2; have p3 := hp.cell 3; have p4 := hp.cell 4; have r0 := hr.cell 0; have r1 := hr.cell 1; have r2 := hr.cell 2; have r3 := hr.cell 3; have r4 := hr.cell 4; have q0 := hr.frozen 0; have q1 := hr.frozen 1; have q2 := hr.frozen 2; have q3 := hr.frozen 3; have q4 := hr.frozen 4; have u0 := hp.frozen 0; have u4 := hp.frozen 4; have HP := Lib.hid hp; have HR := Lib.hid hr; simp only [List.getElem?_toArray, List.getElem?_cons_succ, List.getElem?_cons_zero] at p0 p1 p2 p3 p4 r0 r1 r2 r3 r4; clear hch hb hp hr)
  have H1 := (HR.out.other (p := ⟨w.heap.size, 0, none⟩) (by simp) (.int .i64 s)).other (p := ⟨w.heap.size, 4, none⟩) (by simp) (.slice A3 n3 c3)
  have K9 := ((((H1.set 0 (.int .i64 s)).set 1 (.int .i64 n.err)).set 2 (.int .i64 n.block)).set 3 (.string n.root)).set 4 (.slice A3 n3 c3)
  have B9 := ((((((B3.out.setCell (p := ⟨w.heap.size, 0, none⟩) (Nat.le_refl _) (.int .i64 s)).setCell (p := ⟨w.heap.size, 4, none⟩) (Nat.le_refl _) (.slice A3 n3 c3)).setCell (p := ⟨w.heap.size + 1, 0, none⟩) (Nat.le_succ _) (.int .i64 s)).setCell (p := ⟨w.heap.size + 1, 1, none⟩) (Nat.le_succ _) (.int .i64 n.err)).setCell (p := ⟨w.heap.size + 1, 2, none⟩) (Nat.le_succ _) (.int .i64 n.block)).setCell (p := ⟨w.heap.size + 1, 3, none⟩) (Nat.le_succ _) (.string n.root)).setCell (p := ⟨w.heap.size + 1, 4, none⟩) (Nat.le_succ _) (.slice A3 n3 c3)
  refine bodyPost_ret (results_ntc (g := w.heap.size + 1) rfl _ _ rfl K9) rfl ⟨.slice A3 n3 c3, rfl, ?_, B9⟩
  refine HCH.out.same (fun g cc hg => ?_)
  have e0 : g ≠ w.heap.size := fun e => by rw [e] at hg; exact absurd (blk_type hg HP.out) (by decide)
  have e1 : g ≠ w.heap.size + 1 := fun e => by rw [e] at hg; exact absurd (blk_type hg HR.out) (by decide)
  rw [Below.heap_setCell _ _ _ _ (by simpa using e1), Below.heap_setCell _ _ _ _ (by simpa using e1), Below.heap_setCell _ _ _ _ (by simpa using e1), Below.heap_setCell _ _ _ _ (by simpa using e1), Below.heap_setCell _ _ _ _ (by simpa using e1), Below.heap_setCell _ _ _ _ (by simpa using e0), Below.heap_setCell _ _ _ _ (by simpa using e0)]
end Go.Proofs.Ytjladlniilacjaa

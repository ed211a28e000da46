/-
  Package frame: a change is read.
-/
import Derived.Test.YtlbebdkockejcaaGreatDoorGaFrB
import Derived.Deep.Cut
import Derived.Deep.CutBlock
namespace Go.Proofs.YtlbebdkockejcaaGreatDoor
open Go.RowKit Go.Proofs.Frm Go.Proofs.Mdl
set_option linter.unusedVariables false
set_option linter.unusedSimpArgs false
set_option maxRecDepth 100000 in
set_option maxHeartbeats 4000000 in
/-- A change is read. -/
theorem chgR_any {M b : Nat} {r : Rd} {w : World} (h : Rm M w b r) (hM : M ≤ w.heap.size) (hl : Laid2 w) (hg : 0 ≠ b) :
    Calls Tryz.prog 77 #[.pointer (some ⟨b, 0, none⟩)] w fun e w' => e = .returned (.agg #[.string (chgR r).1.k, .string (chgR r).1.v, .bool (chgR r).1.gone]) ∧ Rm M w' b (chgR r).2 ∧ Far (fun i => i = b) w w' := by
  obtain ⟨w0, g, p, q, hw, e_g, e_p, e_q, hb, b_g, b_p, b_q, hz⟩ := boxes3 w 54 54 3 #[.string ⟨#[]⟩, .string ⟨#[]⟩, .bool false] #[.string ⟨#[]⟩, .string ⟨#[]⟩, .bool false] #[.int .i64 0]
  have hlt := h.lt
  have hgl := hl.lt
  have n_g_p : g ≠ p := by omega
  have n_g_q : g ≠ q := by omega
  have n_g_b : g ≠ b := by omega
  have n_g_G : g ≠ 0 := by omega
  have n_p_g : p ≠ g := by omega
  have n_p_q : p ≠ q := by omega
  have n_p_b : p ≠ b := by omega
  have n_p_G : p ≠ 0 := by omega
  have n_q_g : q ≠ g := by omega
  have n_q_p : q ≠ p := by omega
  have n_q_b : q ≠ b := by omega
  have n_q_G : q ≠ 0 := by omega
  have k_g : w.heap.size ≤ g := by omega
  have k_p : w.heap.size ≤ p := by omega
  have k_q : w.heap.size ≤ q := by omega
  have R0 : Hid (Rm M w0 b r) := Lib.hid (h.below hb)
  have L0 : Hid (Laid2 w0) := Lib.hid (hl.on hb (Nat.le_refl _))
  have F0 : Hid (Far (fun i => i = b) w w0) := Lib.hid ((far_of_below hb).mono (fun _ _ e => e.elim))
  have B0_g : Hid (Blk w0 g 54 #[.string ⟨#[]⟩, .string ⟨#[]⟩, .bool false]) := Lib.hid b_g
  have B0_p : Hid (Blk w0 p 54 #[.string ⟨#[]⟩, .string ⟨#[]⟩, .bool false]) := Lib.hid b_p
  have B0_q : Hid (Blk w0 q 3 #[.int .i64 0]) := Lib.hid b_q
  have HM := Lib.hid hM
  have HG := Lib.hid hg
  have HLT := Lib.hid hlt
  have HGL := Lib.hid hgl
  clear h hM hl hg hb hlt hgl hz b_g b_p b_q
  obtain ⟨⟨x1, s1⟩, h_x1⟩ : ∃ z, z = rdText r := ⟨_, rfl⟩
  obtain ⟨⟨x2, s2⟩, h_x2⟩ : ∃ z, z = rdText s1 := ⟨_, rfl⟩
  obtain ⟨⟨x3, s3⟩, h_x3⟩ : ∃ z, z = rdNum s2 := ⟨_, rfl⟩
  have hres : chgR r = (⟨x1, x2, decide (x3 = 1)⟩, s3) := by
    unfold chgR
    rw [← h_x1]; simp only; rw [← h_x2]; simp only; rw [← h_x3]
  rw [hres]
  clear hres
  obtain ⟨go, hgo⟩ : ∃ go, decide (x3 = 1) = go := ⟨_, rfl⟩
  rw [hgo]
  have hgo2 : (x3 == 1) = go := by rw [← hgo, Bool.eq_iff_iff]; simp
  go_enter Tryz.func77, Tryz.ntmps77
  go_upto_region 3 with (fail)
  rw [← hw, ← e_q, ← e_p, ← e_g]
  clear hw e_g e_p e_q
  have l0_g := B0_g.out.lt
  have l0_p := B0_p.out.lt
  have l0_q := B0_q.out.lt
  have lb0 := R0.out.lt
  have FT0 := Lib.hid (fillText_any (M := M) (r := r) (w := w0.alloc (.cells #[.pointer (some ⟨p, 0, none⟩), .pointer (some ⟨p, 1, none⟩)] 103)) (bk := w0.heap.size) (o := 0) (c := 2) (ps := [⟨p, 0, none⟩, ⟨p, 1, none⟩]) (R0.out.below ((Below.refl _ _).alloc (Nat.le_refl _) _)) (L0.out.on ((Below.refl _ _).alloc (Nat.le_refl _) _) (Nat.le_refl _)) HG.out (by intro q hq; simp only [List.mem_cons, List.not_mem_nil, or_false] at hq; rcases hq with rfl | rfl <;> first | exact n_p_G)
    (by intro q hq; simp only [List.mem_cons, List.not_mem_nil, or_false] at hq; rcases hq with rfl | rfl
        · exact ⟨⟨rfl, _, _, B0_p.out.alloc _, by simp⟩, Nat.le_trans HM.out k_p⟩
        · exact ⟨⟨rfl, _, _, B0_p.out.alloc _, by simp⟩, Nat.le_trans HM.out k_p⟩)
    (by omega) (by intro q hq; simp only [List.mem_cons, List.not_mem_nil, or_false] at hq; rcases hq with rfl | rfl <;> simp only <;> omega) (by simp) (by simp)
    (by
      intro j q hq
      rw [Nat.zero_add, (Blk.new w0 _ _).cell]
      match j, hq with
      | 0, hq => cases hq; rfl
      | 1, hq => cases hq; rfl
      | j + 2, hq => simp at hq))
  clear lb0 l0_g l0_p l0_q
  go_upto_region 4 with (go_at_call 70; refine FT0.out.mono ?_; rintro e w1 ⟨rfl, hr, hF⟩; skip)
  clear FT0
  have hpth : ∀ qq ∈ ([⟨p, 0, none⟩, ⟨p, 1, none⟩] : List Addr), qq.spot = none := by intro q hq; simp only [List.mem_cons, List.not_mem_nil, or_false] at hq; rcases hq with rfl | rfl <;> rfl
  simp only [fillR, ← h_x1, ← h_x2, ← h_x3] at hr
  have B1_g : Hid (Blk w1 g 54 #[.string ⟨#[]⟩, .string ⟨#[]⟩, .bool false]) := Lib.hid (by
    have hh := hF.blk hpth (X := g) n_g_b (B0_g.out.alloc _)
    simp only [fillC, if_true, if_neg n_p_g, if_neg n_p_q, ← h_x1, ← h_x2, ← h_x3] at hh
    exact hh)
  have B1_p : Hid (Blk w1 p 54 #[.string x1, .string x2, .bool false]) := Lib.hid (by
    have hh := hF.blk hpth (X := p) n_p_b (B0_p.out.alloc _)
    simp only [fillC, if_true, if_neg n_p_g, if_neg n_p_q, ← h_x1, ← h_x2, ← h_x3] at hh
    exact hh)
  have B1_q : Hid (Blk w1 q 3 #[.int .i64 0]) := Lib.hid (by
    have hh := hF.blk hpth (X := q) n_q_b (B0_q.out.alloc _)
    simp only [fillC, if_true, if_neg n_p_g, if_neg n_p_q, ← h_x1, ← h_x2, ← h_x3] at hh
    exact hh)
  have R1 : Hid (Rm M w1 b s2) := Lib.hid hr
  have hf := ((((Far.refl (fun i => i = b ∨ ∃ qq ∈ ([⟨p, 0, none⟩, ⟨p, 1, none⟩] : List Addr), qq.block = i) w0).alloc (.cells #[.pointer (some ⟨p, 0, none⟩), .pointer (some ⟨p, 1, none⟩)] 103))).trans hF.far (fun _ _ e => e))
  have L1 : Hid (Laid2 w1) := Lib.hid (L0.out.far hf (fun e => by
    rcases e with e | ⟨q, hq, e⟩
    · exact HG.out e
    · simp only [List.mem_cons, List.not_mem_nil, or_false] at hq; rcases hq with rfl | rfl <;> first | exact n_p_G e))
  have F1 : Hid (Far (fun i => i = b) w w1) := Lib.hid (F0.out.trans hf (fun i hi e => by
    rcases e with e | ⟨q, hq, e⟩
    · exact e
    · simp only [List.mem_cons, List.not_mem_nil, or_false] at hq; rcases hq with rfl | rfl <;> (simp only at e; omega)))
  clear hf
  clear hr hF hpth B0_g B0_p B0_q R0 L0 F0
  have l1_g := B1_g.out.lt
  have l1_p := B1_p.out.lt
  have l1_q := B1_q.out.lt
  have lb1 := R1.out.lt
  have FT1 := Lib.hid (fillNum_any (M := M) (r := s2) (w := w1.alloc (.cells #[.pointer (some ⟨q, 0, none⟩)] 100)) (bk := w1.heap.size) (o := 0) (c := 1) (ps := [⟨q, 0, none⟩]) (R1.out.below ((Below.refl _ _).alloc (Nat.le_refl _) _))
    (by intro q hq; simp only [List.mem_cons, List.not_mem_nil, or_false] at hq; rcases hq with rfl
        · exact ⟨⟨rfl, _, _, B1_q.out.alloc _, by simp⟩, Nat.le_trans HM.out k_q⟩)
    (by omega) (by intro q hq; simp only [List.mem_cons, List.not_mem_nil, or_false] at hq; rcases hq with rfl <;> simp only <;> omega) (by simp) (by simp)
    (by
      intro j q hq
      rw [Nat.zero_add, (Blk.new w1 _ _).cell]
      match j, hq with
      | 0, hq => cases hq; rfl
      | j + 1, hq => simp at hq))
  clear lb1 l1_g l1_p l1_q
  go_upto_region 5 with (go_at_call 69; refine FT1.out.mono ?_; rintro e w2 ⟨rfl, hr, hF⟩; skip)
  clear FT1
  have hpth : ∀ qq ∈ ([⟨q, 0, none⟩] : List Addr), qq.spot = none := by intro q hq; simp only [List.mem_cons, List.not_mem_nil, or_false] at hq; rcases hq with rfl <;> rfl
  simp only [fillR, ← h_x1, ← h_x2, ← h_x3] at hr
  have B2_g : Hid (Blk w2 g 54 #[.string ⟨#[]⟩, .string ⟨#[]⟩, .bool false]) := Lib.hid (by
    have hh := hF.blk hpth (X := g) n_g_b (B1_g.out.alloc _)
    simp only [fillC, if_true, if_neg n_q_g, if_neg n_q_p, ← h_x1, ← h_x2, ← h_x3] at hh
    exact hh)
  have B2_p : Hid (Blk w2 p 54 #[.string x1, .string x2, .bool false]) := Lib.hid (by
    have hh := hF.blk hpth (X := p) n_p_b (B1_p.out.alloc _)
    simp only [fillC, if_true, if_neg n_q_g, if_neg n_q_p, ← h_x1, ← h_x2, ← h_x3] at hh
    exact hh)
  have B2_q : Hid (Blk w2 q 3 #[.int .i64 x3]) := Lib.hid (by
    have hh := hF.blk hpth (X := q) n_q_b (B1_q.out.alloc _)
    simp only [fillC, if_true, if_neg n_q_g, if_neg n_q_p, ← h_x1, ← h_x2, ← h_x3] at hh
    exact hh)
  have R2 : Hid (Rm M w2 b s3) := Lib.hid hr
  have hf := ((((Far.refl (fun i => i = b ∨ ∃ qq ∈ ([⟨q, 0, none⟩] : List Addr), qq.block = i) w1).alloc (.cells #[.pointer (some ⟨q, 0, none⟩)] 100))).trans hF.far (fun _ _ e => e))
  have L2 : Hid (Laid2 w2) := Lib.hid (L1.out.far hf (fun e => by
    rcases e with e | ⟨q, hq, e⟩
    · exact HG.out e
    · simp only [List.mem_cons, List.not_mem_nil, or_false] at hq; rcases hq with rfl <;> first | exact n_q_G e))
  have F2 : Hid (Far (fun i => i = b) w w2) := Lib.hid (F1.out.trans hf (fun i hi e => by
    rcases e with e | ⟨q, hq, e⟩
    · exact e
    · simp only [List.mem_cons, List.not_mem_nil, or_false] at hq; rcases hq with rfl <;> (simp only at e; omega)))
  clear hf
  clear hr hF hpth B1_g B1_p B1_q R1 L1 F1
  have c_q0 := B2_q.out.cell 0
  simp only [List.getElem?_toArray, List.getElem?_cons_succ, List.getElem?_cons_zero] at c_q0
  have c_p2 := B2_p.out.cell 2
  simp only [List.getElem?_toArray, List.getElem?_cons_succ, List.getElem?_cons_zero] at c_p2
  have f_p2 := B2_p.out.frozen 2
  go_upto_region 6 with (fail)
  obtain ⟨w3, hw3⟩ : ∃ z, z = w2.setCell ⟨p, 2, none⟩ (.bool go) := ⟨_, rfl⟩
  rw [← hw3]
  have B3_g : Hid (Blk w3 g 54 #[.string ⟨#[]⟩, .string ⟨#[]⟩, .bool false]) := Lib.hid (by rw [hw3]; exact B2_g.out.other (p := ⟨p, 2, none⟩) n_g_p _)
  have B3_p : Hid (Blk w3 p 54 #[.string x1, .string x2, .bool go]) := Lib.hid (by rw [hw3]; exact B2_p.out.set 2 _)
  have B3_q : Hid (Blk w3 q 3 #[.int .i64 x3]) := Lib.hid (by rw [hw3]; exact B2_q.out.other (p := ⟨p, 2, none⟩) n_q_p _)
  have hfs : Far (fun i => i = p) w2 w3 := by rw [hw3]; exact set_far _ _ _ _
  have R3 : Hid (Rm M w3 b s3) := Lib.hid (R2.out.far hfs (fun e => n_p_b e.symm) (fun i hi _ e => by have := HM.out; omega))
  have hf := hfs.mono (S' := fun i => i = b ∨ ∃ qq ∈ ([⟨p, 2, none⟩] : List Addr), qq.block = i) (fun i _ e => .inr ⟨_, List.mem_cons_self, e.symm⟩)
  have L3 : Hid (Laid2 w3) := Lib.hid (L2.out.far hf (fun e => by
    rcases e with e | ⟨q, hq, e⟩
    · exact HG.out e
    · simp only [List.mem_cons, List.not_mem_nil, or_false] at hq; rcases hq with rfl <;> first | exact n_p_G e))
  have F3 : Hid (Far (fun i => i = b) w w3) := Lib.hid (F2.out.trans hf (fun i hi e => by
    rcases e with e | ⟨q, hq, e⟩
    · exact e
    · simp only [List.mem_cons, List.not_mem_nil, or_false] at hq; rcases hq with rfl <;> (simp only at e; omega)))
  clear hf
  clear hw3 hfs B2_g B2_p B2_q R2 L2 F2 c_q0 c_p2 f_p2
  have c_p0 := B3_p.out.cell 0
  have c_p1 := B3_p.out.cell 1
  have c_p2 := B3_p.out.cell 2
  simp only [List.getElem?_toArray, List.getElem?_cons_succ, List.getElem?_cons_zero] at c_p0 c_p1 c_p2
  have c_g0 := B3_g.out.cell 0
  have c_g1 := B3_g.out.cell 1
  have c_g2 := B3_g.out.cell 2
  simp only [List.getElem?_toArray, List.getElem?_cons_succ, List.getElem?_cons_zero] at c_g0 c_g1 c_g2
  have f_g0 := B3_g.out.frozen 0
  have f_g1 := B3_g.out.frozen 1
  have f_g2 := B3_g.out.frozen 2
  go_wp2_with fail
  have h5 : Blk (((w3.setCell ⟨g, 0, none⟩ (.string x1)).setCell ⟨g, 1, none⟩ (.string x2)).setCell ⟨g, 2, none⟩ (.bool go)) g 54 [(.string x1 : Value), (.string x2 : Value), (.bool go : Value)].toArray := (((B3_g.out).set 0 _).set 1 _).set 2 _
  have f5 : Far (fun i => i = g) w3 (((w3.setCell ⟨g, 0, none⟩ (.string x1)).setCell ⟨g, 1, none⟩ (.string x2)).setCell ⟨g, 2, none⟩ (.bool go)) := ((set_far _ _ _ _).trans (set_far _ _ _ _) (fun _ _ e => e)).trans (set_far _ _ _ _) (fun _ _ e => e)
  refine bodyPost_ret (results_b1 rfl isAggC sizeC _ _ g rfl h5 rfl) rfl ?_
  have hM := HM.out
  have RZ := R3.out.far f5 (fun e => n_g_b e.symm) (fun i hi _ e => by omega)
  have FZ := F3.out.trans f5 (fun i hi e => by omega)
  exact ⟨rfl, RZ, FZ⟩
end Go.Proofs.YtlbebdkockejcaaGreatDoor

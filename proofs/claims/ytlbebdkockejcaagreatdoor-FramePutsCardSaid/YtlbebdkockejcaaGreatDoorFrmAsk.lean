/-
  Package frame: an ask is read.
-/
import Derived.Test.YtlbebdkockejcaaGreatDoorGaFrB
import Derived.Deep.Cut
import Derived.Deep.CutBlock
namespace Go.Proofs.YtlbebdkockejcaaGreatDoor
open Go.RowKit Go.Proofs.Frm Go.Proofs.Mdl
set_option linter.unusedVariables false
set_option linter.unusedSimpArgs false
theorem isAggA (w : World) : (isAgg 23).run Tryz.prog w = .ok true w := by kernel_rfl
theorem sizeA (w : World) : (sizeOf 23).run Tryz.prog w = .ok 7 w := by kernel_rfl
/-- An ask's cells. -/
def cellA (a : Frm.Ask) : List Value := [.int .i64 a.kind, .int .i64 a.session, .int .i64 a.seq, .int .i64 a.at_, .string a.key, .string a.to_, .int .i64 a.limit]
theorem rdNum_range (r : Rd) : 0 ≤ (rdNum r).1 ∧ (rdNum r).1 ≤ 1048577 := by
  unfold rdNum numOk
  split
  · next n h =>
    simp only
    split at h
    · split at h
      · cases h; omega
      · cases h
    · cases h
  · simp
set_option maxRecDepth 100000 in
set_option maxHeartbeats 4000000 in
/-- An ask is read. -/
theorem askR_any {M b : Nat} {r : Rd} {w : World} (h : Rm M w b r) (hM : M ≤ w.heap.size) (hl : Laid2 w) (hg : 0 ≠ b) :
    Calls Tryz.prog 46 #[.pointer (some ⟨b, 0, none⟩)] w fun e w' => e = .returned (.agg (cellA (askR r).1).toArray) ∧ Rm M w' b (askR r).2 ∧ Far (fun i => i = b) w w' := by
  obtain ⟨w0, g, p, hw, e_g, e_p, hb, b_g, b_p, hz⟩ := boxes2 w 23 23 #[.int .i64 0, .int .i64 0, .int .i64 0, .int .i64 0, .string ⟨#[]⟩, .string ⟨#[]⟩, .int .i64 0] #[.int .i64 0, .int .i64 0, .int .i64 0, .int .i64 0, .string ⟨#[]⟩, .string ⟨#[]⟩, .int .i64 0]
  have hlt := h.lt
  have hgl := hl.lt
  have n_g_p : g ≠ p := by omega
  have n_g_b : g ≠ b := by omega
  have n_g_G : g ≠ 0 := by omega
  have n_p_g : p ≠ g := by omega
  have n_p_b : p ≠ b := by omega
  have n_p_G : p ≠ 0 := by omega
  have k_g : w.heap.size ≤ g := by omega
  have k_p : w.heap.size ≤ p := by omega
  have R0 : Hid (Rm M w0 b r) := Lib.hid (h.below hb)
  have L0 : Hid (Laid2 w0) := Lib.hid (hl.on hb (Nat.le_refl _))
  have F0 : Hid (Far (fun i => i = b) w w0) := Lib.hid ((far_of_below hb).mono (fun _ _ e => e.elim))
  have B0_g : Hid (Blk w0 g 23 #[.int .i64 0, .int .i64 0, .int .i64 0, .int .i64 0, .string ⟨#[]⟩, .string ⟨#[]⟩, .int .i64 0]) := Lib.hid b_g
  have B0_p : Hid (Blk w0 p 23 #[.int .i64 0, .int .i64 0, .int .i64 0, .int .i64 0, .string ⟨#[]⟩, .string ⟨#[]⟩, .int .i64 0]) := Lib.hid b_p
  have HM := Lib.hid hM
  have HG := Lib.hid hg
  have HLT := Lib.hid hlt
  have HGL := Lib.hid hgl
  clear h hM hl hg hb hlt hgl hz b_g b_p
  obtain ⟨⟨x1, s1⟩, h_x1⟩ : ∃ z, z = rdNum r := ⟨_, rfl⟩
  obtain ⟨⟨x2, s2⟩, h_x2⟩ : ∃ z, z = rdNum s1 := ⟨_, rfl⟩
  obtain ⟨⟨x3, s3⟩, h_x3⟩ : ∃ z, z = rdNum s2 := ⟨_, rfl⟩
  obtain ⟨⟨x4, s4⟩, h_x4⟩ : ∃ z, z = rdNum s3 := ⟨_, rfl⟩
  obtain ⟨⟨x5, s5⟩, h_x5⟩ : ∃ z, z = rdText s4 := ⟨_, rfl⟩
  obtain ⟨⟨x6, s6⟩, h_x6⟩ : ∃ z, z = rdText s5 := ⟨_, rfl⟩
  obtain ⟨⟨x7, s7⟩, h_x7⟩ : ∃ z, z = rdNum s6 := ⟨_, rfl⟩
  have hres : askR r = (⟨x1, x2, x3, x4 - 1, x5, x6, x7⟩, s7) := by
    unfold askR
    simp only
    rw [← h_x1]; simp only; rw [← h_x2]; simp only; rw [← h_x3]; simp only; rw [← h_x4]; simp only; rw [← h_x5]; simp only; rw [← h_x6]; simp only; rw [← h_x7]
  rw [hres]
  have hr4 := rdNum_range s3
  rw [← h_x4] at hr4
  simp only at hr4
  have wk : IntKind.i64.wrap (x4 - 1) = x4 - 1 := IntWalk.i64_in _ (by omega)
  clear hres
  go_enter Tryz.func46, Tryz.ntmps46
  go_upto_region 2 with (fail)
  rw [← hw, ← e_p, ← e_g]
  clear hw e_g e_p
  have l0_g := B0_g.out.lt
  have l0_p := B0_p.out.lt
  have lb0 := R0.out.lt
  have FT0 := Lib.hid (fillNum_any (M := M) (r := r) (w := w0.alloc (.cells #[.pointer (some ⟨p, 0, none⟩), .pointer (some ⟨p, 1, none⟩), .pointer (some ⟨p, 2, none⟩), .pointer (some ⟨p, 3, none⟩)] 100)) (bk := w0.heap.size) (o := 0) (c := 4) (ps := [⟨p, 0, none⟩, ⟨p, 1, none⟩, ⟨p, 2, none⟩, ⟨p, 3, none⟩]) (R0.out.below ((Below.refl _ _).alloc (Nat.le_refl _) _))
    (by intro q hq; simp only [List.mem_cons, List.not_mem_nil, or_false] at hq; rcases hq with rfl | rfl | rfl | rfl
        · exact ⟨⟨rfl, _, _, B0_p.out.alloc _, by simp⟩, Nat.le_trans HM.out k_p⟩
        · exact ⟨⟨rfl, _, _, B0_p.out.alloc _, by simp⟩, Nat.le_trans HM.out k_p⟩
        · exact ⟨⟨rfl, _, _, B0_p.out.alloc _, by simp⟩, Nat.le_trans HM.out k_p⟩
        · exact ⟨⟨rfl, _, _, B0_p.out.alloc _, by simp⟩, Nat.le_trans HM.out k_p⟩)
    (by omega) (by intro q hq; simp only [List.mem_cons, List.not_mem_nil, or_false] at hq; rcases hq with rfl | rfl | rfl | rfl <;> simp only <;> omega) (by simp) (by simp)
    (by
      intro j q hq
      rw [Nat.zero_add, (Blk.new w0 _ _).cell]
      match j, hq with
      | 0, hq => cases hq; rfl
      | 1, hq => cases hq; rfl
      | 2, hq => cases hq; rfl
      | 3, hq => cases hq; rfl
      | j + 4, hq => simp at hq))
  clear lb0 l0_g l0_p
  go_upto_region 3 with (go_at_call 69; refine FT0.out.mono ?_; rintro e w1 ⟨rfl, hr, hF⟩; skip)
  clear FT0
  have hpth : ∀ qq ∈ ([⟨p, 0, none⟩, ⟨p, 1, none⟩, ⟨p, 2, none⟩, ⟨p, 3, none⟩] : List Addr), qq.spot = none := by intro q hq; simp only [List.mem_cons, List.not_mem_nil, or_false] at hq; rcases hq with rfl | rfl | rfl | rfl <;> rfl
  simp only [fillR, ← h_x1, ← h_x2, ← h_x3, ← h_x4, ← h_x5, ← h_x6, ← h_x7] at hr
  have B1_g : Hid (Blk w1 g 23 #[.int .i64 0, .int .i64 0, .int .i64 0, .int .i64 0, .string ⟨#[]⟩, .string ⟨#[]⟩, .int .i64 0]) := Lib.hid (by
    have hh := hF.blk hpth (X := g) n_g_b (B0_g.out.alloc _)
    simp only [fillC, if_true, if_neg n_p_g, ← h_x1, ← h_x2, ← h_x3, ← h_x4, ← h_x5, ← h_x6, ← h_x7] at hh
    exact hh)
  have B1_p : Hid (Blk w1 p 23 #[.int .i64 x1, .int .i64 x2, .int .i64 x3, .int .i64 x4, .string ⟨#[]⟩, .string ⟨#[]⟩, .int .i64 0]) := Lib.hid (by
    have hh := hF.blk hpth (X := p) n_p_b (B0_p.out.alloc _)
    simp only [fillC, if_true, if_neg n_p_g, ← h_x1, ← h_x2, ← h_x3, ← h_x4, ← h_x5, ← h_x6, ← h_x7] at hh
    exact hh)
  have R1 : Hid (Rm M w1 b s4) := Lib.hid hr
  have hf := ((((Far.refl (fun i => i = b ∨ ∃ qq ∈ ([⟨p, 0, none⟩, ⟨p, 1, none⟩, ⟨p, 2, none⟩, ⟨p, 3, none⟩] : List Addr), qq.block = i) w0).alloc (.cells #[.pointer (some ⟨p, 0, none⟩), .pointer (some ⟨p, 1, none⟩), .pointer (some ⟨p, 2, none⟩), .pointer (some ⟨p, 3, none⟩)] 100))).trans hF.far (fun _ _ e => e))
  have L1 : Hid (Laid2 w1) := Lib.hid (L0.out.far hf (fun e => by
    rcases e with e | ⟨q, hq, e⟩
    · exact HG.out e
    · simp only [List.mem_cons, List.not_mem_nil, or_false] at hq; rcases hq with rfl | rfl | rfl | rfl <;> first | exact n_p_G e))
  have F1 : Hid (Far (fun i => i = b) w w1) := Lib.hid (F0.out.trans hf (fun i hi e => by
    rcases e with e | ⟨q, hq, e⟩
    · exact e
    · simp only [List.mem_cons, List.not_mem_nil, or_false] at hq; rcases hq with rfl | rfl | rfl | rfl <;> (simp only at e; omega)))
  clear hf
  clear hr hF hpth B0_g B0_p R0 L0 F0
  have l1_g := B1_g.out.lt
  have l1_p := B1_p.out.lt
  have lb1 := R1.out.lt
  have FT1 := Lib.hid (fillText_any (M := M) (r := s4) (w := w1.alloc (.cells #[.pointer (some ⟨p, 4, none⟩), .pointer (some ⟨p, 5, none⟩)] 103)) (bk := w1.heap.size) (o := 0) (c := 2) (ps := [⟨p, 4, none⟩, ⟨p, 5, none⟩]) (R1.out.below ((Below.refl _ _).alloc (Nat.le_refl _) _)) (L1.out.on ((Below.refl _ _).alloc (Nat.le_refl _) _) (Nat.le_refl _)) HG.out (by intro q hq; simp only [List.mem_cons, List.not_mem_nil, or_false] at hq; rcases hq with rfl | rfl <;> first | exact n_p_G)
    (by intro q hq; simp only [List.mem_cons, List.not_mem_nil, or_false] at hq; rcases hq with rfl | rfl
        · exact ⟨⟨rfl, _, _, B1_p.out.alloc _, by simp⟩, Nat.le_trans HM.out k_p⟩
        · exact ⟨⟨rfl, _, _, B1_p.out.alloc _, by simp⟩, Nat.le_trans HM.out k_p⟩)
    (by omega) (by intro q hq; simp only [List.mem_cons, List.not_mem_nil, or_false] at hq; rcases hq with rfl | rfl <;> simp only <;> omega) (by simp) (by simp)
    (by
      intro j q hq
      rw [Nat.zero_add, (Blk.new w1 _ _).cell]
      match j, hq with
      | 0, hq => cases hq; rfl
      | 1, hq => cases hq; rfl
      | j + 2, hq => simp at hq))
  clear lb1 l1_g l1_p
  go_upto_region 4 with (go_at_call 70; refine FT1.out.mono ?_; rintro e w2 ⟨rfl, hr, hF⟩; skip)
  clear FT1
  have hpth : ∀ qq ∈ ([⟨p, 4, none⟩, ⟨p, 5, none⟩] : List Addr), qq.spot = none := by intro q hq; simp only [List.mem_cons, List.not_mem_nil, or_false] at hq; rcases hq with rfl | rfl <;> rfl
  simp only [fillR, ← h_x1, ← h_x2, ← h_x3, ← h_x4, ← h_x5, ← h_x6, ← h_x7] at hr
  have B2_g : Hid (Blk w2 g 23 #[.int .i64 0, .int .i64 0, .int .i64 0, .int .i64 0, .string ⟨#[]⟩, .string ⟨#[]⟩, .int .i64 0]) := Lib.hid (by
    have hh := hF.blk hpth (X := g) n_g_b (B1_g.out.alloc _)
    simp only [fillC, if_true, if_neg n_p_g, ← h_x1, ← h_x2, ← h_x3, ← h_x4, ← h_x5, ← h_x6, ← h_x7] at hh
    exact hh)
  have B2_p : Hid (Blk w2 p 23 #[.int .i64 x1, .int .i64 x2, .int .i64 x3, .int .i64 x4, .string x5, .string x6, .int .i64 0]) := Lib.hid (by
    have hh := hF.blk hpth (X := p) n_p_b (B1_p.out.alloc _)
    simp only [fillC, if_true, if_neg n_p_g, ← h_x1, ← h_x2, ← h_x3, ← h_x4, ← h_x5, ← h_x6, ← h_x7] at hh
    exact hh)
  have R2 : Hid (Rm M w2 b s6) := Lib.hid hr
  have hf := ((((Far.refl (fun i => i = b ∨ ∃ qq ∈ ([⟨p, 4, none⟩, ⟨p, 5, none⟩] : List Addr), qq.block = i) w1).alloc (.cells #[.pointer (some ⟨p, 4, none⟩), .pointer (some ⟨p, 5, none⟩)] 103))).trans hF.far (fun _ _ e => e))
  have L2 : Hid (Laid2 w2) := Lib.hid (L1.out.far hf (fun e => by
    rcases e with e | ⟨q, hq, e⟩
    · exact HG.out e
    · simp only [List.mem_cons, List.not_mem_nil, or_false] at hq; rcases hq with rfl | rfl <;> first | exact n_p_G e))
  have F2 : Hid (Far (fun i => i = b) w w2) := Lib.hid (F1.out.trans hf (fun i hi e => by
    rcases e with e | ⟨q, hq, e⟩
    · exact e
    · simp only [List.mem_cons, List.not_mem_nil, or_false] at hq; rcases hq with rfl | rfl <;> (simp only at e; omega)))
  clear hf
  clear hr hF hpth B1_g B1_p R1 L1 F1
  have l2_g := B2_g.out.lt
  have l2_p := B2_p.out.lt
  have lb2 := R2.out.lt
  have FT2 := Lib.hid (fillNum_any (M := M) (r := s6) (w := w2.alloc (.cells #[.pointer (some ⟨p, 6, none⟩)] 100)) (bk := w2.heap.size) (o := 0) (c := 1) (ps := [⟨p, 6, none⟩]) (R2.out.below ((Below.refl _ _).alloc (Nat.le_refl _) _))
    (by intro q hq; simp only [List.mem_cons, List.not_mem_nil, or_false] at hq; rcases hq with rfl
        · exact ⟨⟨rfl, _, _, B2_p.out.alloc _, by simp⟩, Nat.le_trans HM.out k_p⟩)
    (by omega) (by intro q hq; simp only [List.mem_cons, List.not_mem_nil, or_false] at hq; rcases hq with rfl <;> simp only <;> omega) (by simp) (by simp)
    (by
      intro j q hq
      rw [Nat.zero_add, (Blk.new w2 _ _).cell]
      match j, hq with
      | 0, hq => cases hq; rfl
      | j + 1, hq => simp at hq))
  clear lb2 l2_g l2_p
  go_upto_region 5 with (go_at_call 69; refine FT2.out.mono ?_; rintro e w3 ⟨rfl, hr, hF⟩; skip)
  clear FT2
  have hpth : ∀ qq ∈ ([⟨p, 6, none⟩] : List Addr), qq.spot = none := by intro q hq; simp only [List.mem_cons, List.not_mem_nil, or_false] at hq; rcases hq with rfl <;> rfl
  simp only [fillR, ← h_x1, ← h_x2, ← h_x3, ← h_x4, ← h_x5, ← h_x6, ← h_x7] at hr
  have B3_g : Hid (Blk w3 g 23 #[.int .i64 0, .int .i64 0, .int .i64 0, .int .i64 0, .string ⟨#[]⟩, .string ⟨#[]⟩, .int .i64 0]) := Lib.hid (by
    have hh := hF.blk hpth (X := g) n_g_b (B2_g.out.alloc _)
    simp only [fillC, if_true, if_neg n_p_g, ← h_x1, ← h_x2, ← h_x3, ← h_x4, ← h_x5, ← h_x6, ← h_x7] at hh
    exact hh)
  have B3_p : Hid (Blk w3 p 23 #[.int .i64 x1, .int .i64 x2, .int .i64 x3, .int .i64 x4, .string x5, .string x6, .int .i64 x7]) := Lib.hid (by
    have hh := hF.blk hpth (X := p) n_p_b (B2_p.out.alloc _)
    simp only [fillC, if_true, if_neg n_p_g, ← h_x1, ← h_x2, ← h_x3, ← h_x4, ← h_x5, ← h_x6, ← h_x7] at hh
    exact hh)
  have R3 : Hid (Rm M w3 b s7) := Lib.hid hr
  have hf := ((((Far.refl (fun i => i = b ∨ ∃ qq ∈ ([⟨p, 6, none⟩] : List Addr), qq.block = i) w2).alloc (.cells #[.pointer (some ⟨p, 6, none⟩)] 100))).trans hF.far (fun _ _ e => e))
  have L3 : Hid (Laid2 w3) := Lib.hid (L2.out.far hf (fun e => by
    rcases e with e | ⟨q, hq, e⟩
    · exact HG.out e
    · simp only [List.mem_cons, List.not_mem_nil, or_false] at hq; rcases hq with rfl <;> first | exact n_p_G e))
  have F3 : Hid (Far (fun i => i = b) w w3) := Lib.hid (F2.out.trans hf (fun i hi e => by
    rcases e with e | ⟨q, hq, e⟩
    · exact e
    · simp only [List.mem_cons, List.not_mem_nil, or_false] at hq; rcases hq with rfl <;> (simp only at e; omega)))
  clear hf
  clear hr hF hpth B2_g B2_p R2 L2 F2
  have c_p3 := B3_p.out.cell 3
  simp only [List.getElem?_toArray, List.getElem?_cons_succ, List.getElem?_cons_zero] at c_p3
  have f_p3 := B3_p.out.frozen 3
  go_upto_region 6 with (fail)
  obtain ⟨w4, hw4⟩ : ∃ z, z = w3.setCell ⟨p, 3, none⟩ (.int .i64 (x4 - 1)) := ⟨_, rfl⟩
  rw [← hw4]
  have B4_g : Hid (Blk w4 g 23 #[.int .i64 0, .int .i64 0, .int .i64 0, .int .i64 0, .string ⟨#[]⟩, .string ⟨#[]⟩, .int .i64 0]) := Lib.hid (by rw [hw4]; exact B3_g.out.other (p := ⟨p, 3, none⟩) n_g_p _)
  have B4_p : Hid (Blk w4 p 23 #[.int .i64 x1, .int .i64 x2, .int .i64 x3, .int .i64 (x4 - 1), .string x5, .string x6, .int .i64 x7]) := Lib.hid (by rw [hw4]; exact B3_p.out.set 3 _)
  have hfs : Far (fun i => i = p) w3 w4 := by rw [hw4]; exact set_far _ _ _ _
  have R4 : Hid (Rm M w4 b s7) := Lib.hid (R3.out.far hfs (fun e => n_p_b e.symm) (fun i hi _ e => by have := HM.out; omega))
  have hf := hfs.mono (S' := fun i => i = b ∨ ∃ qq ∈ ([⟨p, 3, none⟩] : List Addr), qq.block = i) (fun i _ e => .inr ⟨_, List.mem_cons_self, e.symm⟩)
  have L4 : Hid (Laid2 w4) := Lib.hid (L3.out.far hf (fun e => by
    rcases e with e | ⟨q, hq, e⟩
    · exact HG.out e
    · simp only [List.mem_cons, List.not_mem_nil, or_false] at hq; rcases hq with rfl <;> first | exact n_p_G e))
  have F4 : Hid (Far (fun i => i = b) w w4) := Lib.hid (F3.out.trans hf (fun i hi e => by
    rcases e with e | ⟨q, hq, e⟩
    · exact e
    · simp only [List.mem_cons, List.not_mem_nil, or_false] at hq; rcases hq with rfl <;> (simp only at e; omega)))
  clear hf
  clear hw4 hfs B3_g B3_p R3 L3 F3 c_p3 f_p3
  have c_p0 := B4_p.out.cell 0
  have c_p1 := B4_p.out.cell 1
  have c_p2 := B4_p.out.cell 2
  have c_p3 := B4_p.out.cell 3
  have c_p4 := B4_p.out.cell 4
  have c_p5 := B4_p.out.cell 5
  have c_p6 := B4_p.out.cell 6
  simp only [List.getElem?_toArray, List.getElem?_cons_succ, List.getElem?_cons_zero] at c_p0 c_p1 c_p2 c_p3 c_p4 c_p5 c_p6
  have c_g0 := B4_g.out.cell 0
  have c_g1 := B4_g.out.cell 1
  have c_g2 := B4_g.out.cell 2
  have c_g3 := B4_g.out.cell 3
  have c_g4 := B4_g.out.cell 4
  have c_g5 := B4_g.out.cell 5
  have c_g6 := B4_g.out.cell 6
  simp only [List.getElem?_toArray, List.getElem?_cons_succ, List.getElem?_cons_zero] at c_g0 c_g1 c_g2 c_g3 c_g4 c_g5 c_g6
  have f_g0 := B4_g.out.frozen 0
  have f_g1 := B4_g.out.frozen 1
  have f_g2 := B4_g.out.frozen 2
  have f_g3 := B4_g.out.frozen 3
  have f_g4 := B4_g.out.frozen 4
  have f_g5 := B4_g.out.frozen 5
  have f_g6 := B4_g.out.frozen 6
  go_wp2_with fail
  have h5 : Blk (((((((w4.setCell ⟨g, 0, none⟩ (.int .i64 x1)).setCell ⟨g, 1, none⟩ (.int .i64 x2)).setCell ⟨g, 2, none⟩ (.int .i64 x3)).setCell ⟨g, 3, none⟩ (.int .i64 (x4 - 1))).setCell ⟨g, 4, none⟩ (.string x5)).setCell ⟨g, 5, none⟩ (.string x6)).setCell ⟨g, 6, none⟩ (.int .i64 x7)) g 23 [(.int .i64 x1 : Value), (.int .i64 x2 : Value), (.int .i64 x3 : Value), (.int .i64 (x4 - 1) : Value), (.string x5 : Value), (.string x6 : Value), (.int .i64 x7 : Value)].toArray := (((((((B4_g.out).set 0 _).set 1 _).set 2 _).set 3 _).set 4 _).set 5 _).set 6 _
  have f5 : Far (fun i => i = g) w4 (((((((w4.setCell ⟨g, 0, none⟩ (.int .i64 x1)).setCell ⟨g, 1, none⟩ (.int .i64 x2)).setCell ⟨g, 2, none⟩ (.int .i64 x3)).setCell ⟨g, 3, none⟩ (.int .i64 (x4 - 1))).setCell ⟨g, 4, none⟩ (.string x5)).setCell ⟨g, 5, none⟩ (.string x6)).setCell ⟨g, 6, none⟩ (.int .i64 x7)) := ((((((set_far _ _ _ _).trans (set_far _ _ _ _) (fun _ _ e => e)).trans (set_far _ _ _ _) (fun _ _ e => e)).trans (set_far _ _ _ _) (fun _ _ e => e)).trans (set_far _ _ _ _) (fun _ _ e => e)).trans (set_far _ _ _ _) (fun _ _ e => e)).trans (set_far _ _ _ _) (fun _ _ e => e)
  refine bodyPost_ret (results_b1 rfl isAggA sizeA _ _ g rfl h5 rfl) rfl ?_
  have hM := HM.out
  have RZ := R4.out.far f5 (fun e => n_g_b e.symm) (fun i hi _ e => by omega)
  have FZ := F4.out.trans f5 (fun i hi e => by omega)
  exact ⟨rfl, RZ, FZ⟩
end Go.Proofs.YtlbebdkockejcaaGreatDoor

/-
  Package frame: a notice is read.
-/
import Derived.Test.YtlbebdkockejcaaGreatDoorFrmRows
import Derived.Test.YtlbebdkockejcaaGreatDoorGaFrB
import Derived.Deep.Cut
import Derived.Deep.CutBlock
namespace Go.Proofs.YtlbebdkockejcaaGreatDoor
open Go.RowKit Go.Proofs.Frm Go.Proofs.Mdl
set_option linter.unusedVariables false
set_option linter.unusedSimpArgs false
theorem isAggN (w : World) : (isAgg 30).run Tryz.prog w = .ok true w := by kernel_rfl
theorem sizeN (w : World) : (sizeOf 30).run Tryz.prog w = .ok 5 w := by kernel_rfl
/-- A notice's cells. -/
def cellN (n : Frm.Ntc) (v : Value) : List Value := [.int .i64 n.session, .int .i64 n.err, .int .i64 n.block, .string n.root, v]
set_option maxRecDepth 100000 in
set_option maxHeartbeats 4000000 in
/-- A notice is read. -/
theorem ntcR_any {M b : Nat} {r : Rd} {w : World} (h : Rm M w b r) (hM : M ≤ w.heap.size) (hl : Laid2 w) (hg : 0 ≠ b) :
    Calls Tryz.prog 54 #[.pointer (some ⟨b, 0, none⟩)] w fun e w' => ∃ vl, e = .returned (.agg (cellN (ntcR r).1 vl).toArray) ∧ w'.ownsRow w.heap.size 54 3 vl (ntcR r).1.changes.length (flatC (ntcR r).1.changes) ∧ Rm M w' b (ntcR r).2 ∧ Far (fun i => i = b) w w' := by
  obtain ⟨w0, g, p, n, hw, e_g, e_p, e_n, hb, b_g, b_p, b_n, hz⟩ := boxes3 w 30 30 3 #[.int .i64 0, .int .i64 0, .int .i64 0, .string ⟨#[]⟩, .slice none 0 0] #[.int .i64 0, .int .i64 0, .int .i64 0, .string ⟨#[]⟩, .slice none 0 0] #[.int .i64 0]
  have hlt := h.lt
  have hgl := hl.lt
  have n_g_p : g ≠ p := by omega
  have n_g_n : g ≠ n := by omega
  have n_g_b : g ≠ b := by omega
  have n_g_G : g ≠ 0 := by omega
  have n_p_g : p ≠ g := by omega
  have n_p_n : p ≠ n := by omega
  have n_p_b : p ≠ b := by omega
  have n_p_G : p ≠ 0 := by omega
  have n_n_g : n ≠ g := by omega
  have n_n_p : n ≠ p := by omega
  have n_n_b : n ≠ b := by omega
  have n_n_G : n ≠ 0 := by omega
  have k_g : w.heap.size ≤ g := by omega
  have k_p : w.heap.size ≤ p := by omega
  have k_n : w.heap.size ≤ n := by omega
  have R0 : Hid (Rm M w0 b r) := Lib.hid (h.below hb)
  have L0 : Hid (Laid2 w0) := Lib.hid (hl.on hb (Nat.le_refl _))
  have F0 : Hid (Far (fun i => i = b) w w0) := Lib.hid ((far_of_below hb).mono (fun _ _ e => e.elim))
  have B0_g : Hid (Blk w0 g 30 #[.int .i64 0, .int .i64 0, .int .i64 0, .string ⟨#[]⟩, .slice none 0 0]) := Lib.hid b_g
  have B0_p : Hid (Blk w0 p 30 #[.int .i64 0, .int .i64 0, .int .i64 0, .string ⟨#[]⟩, .slice none 0 0]) := Lib.hid b_p
  have B0_n : Hid (Blk w0 n 3 #[.int .i64 0]) := Lib.hid b_n
  have HM := Lib.hid hM
  have HG := Lib.hid hg
  have HLT := Lib.hid hlt
  have HGL := Lib.hid hgl
  clear h hM hl hg hb hlt hgl hz b_g b_p b_n
  obtain ⟨⟨x1, s1⟩, h_x1⟩ : ∃ z, z = rdNum r := ⟨_, rfl⟩
  obtain ⟨⟨x2, s2⟩, h_x2⟩ : ∃ z, z = rdNum s1 := ⟨_, rfl⟩
  obtain ⟨⟨x3, s3⟩, h_x3⟩ : ∃ z, z = rdNum s2 := ⟨_, rfl⟩
  obtain ⟨⟨x4, s4⟩, h_x4⟩ : ∃ z, z = rdText s3 := ⟨_, rfl⟩
  obtain ⟨⟨x5, s5⟩, h_x5⟩ : ∃ z, z = rdRows chgR s4 := ⟨_, rfl⟩
  have hres : ntcR r = (⟨x1, x2, x3, x4, x5⟩, s5) := by
    unfold ntcR
    simp only
    rw [← h_x1]; simp only; rw [← h_x2]; simp only; rw [← h_x3]; simp only; rw [← h_x4]; simp only; rw [← h_x5]
  rw [hres]
  clear hres
  go_enter Tryz.func54, Tryz.ntmps54
  go_upto_region 3 with (fail)
  rw [← hw, ← e_n, ← e_p, ← e_g]
  clear hw e_g e_p e_n
  have l0_g := B0_g.out.lt
  have l0_p := B0_p.out.lt
  have l0_n := B0_n.out.lt
  have lb0 := R0.out.lt
  have FT0 := Lib.hid (fillNum_any (M := M) (r := r) (w := w0.alloc (.cells #[.pointer (some ⟨p, 0, none⟩), .pointer (some ⟨n, 0, none⟩), .pointer (some ⟨p, 2, none⟩)] 100)) (bk := w0.heap.size) (o := 0) (c := 3) (ps := [⟨p, 0, none⟩, ⟨n, 0, none⟩, ⟨p, 2, none⟩]) (R0.out.below ((Below.refl _ _).alloc (Nat.le_refl _) _))
    (by intro q hq; simp only [List.mem_cons, List.not_mem_nil, or_false] at hq; rcases hq with rfl | rfl | rfl
        · exact ⟨⟨rfl, _, _, B0_p.out.alloc _, by simp⟩, Nat.le_trans HM.out k_p⟩
        · exact ⟨⟨rfl, _, _, B0_n.out.alloc _, by simp⟩, Nat.le_trans HM.out k_n⟩
        · exact ⟨⟨rfl, _, _, B0_p.out.alloc _, by simp⟩, Nat.le_trans HM.out k_p⟩)
    (by omega) (by intro q hq; simp only [List.mem_cons, List.not_mem_nil, or_false] at hq; rcases hq with rfl | rfl | rfl <;> simp only <;> omega) (by simp) (by simp)
    (by
      intro j q hq
      rw [Nat.zero_add, (Blk.new w0 _ _).cell]
      match j, hq with
      | 0, hq => cases hq; rfl
      | 1, hq => cases hq; rfl
      | 2, hq => cases hq; rfl
      | j + 3, hq => simp at hq))
  clear lb0 l0_g l0_p l0_n
  go_upto_region 4 with (go_at_call 69; refine FT0.out.mono ?_; rintro e w1 ⟨rfl, hr, hF⟩; skip)
  clear FT0
  have hpth : ∀ qq ∈ ([⟨p, 0, none⟩, ⟨n, 0, none⟩, ⟨p, 2, none⟩] : List Addr), qq.spot = none := by intro q hq; simp only [List.mem_cons, List.not_mem_nil, or_false] at hq; rcases hq with rfl | rfl | rfl <;> rfl
  simp only [fillR, ← h_x1, ← h_x2, ← h_x3, ← h_x4, ← h_x5] at hr
  have B1_g : Hid (Blk w1 g 30 #[.int .i64 0, .int .i64 0, .int .i64 0, .string ⟨#[]⟩, .slice none 0 0]) := Lib.hid (by
    have hh := hF.blk hpth (X := g) n_g_b (B0_g.out.alloc _)
    simp only [fillC, if_true, if_neg n_p_g, if_neg n_p_n, if_neg n_n_g, if_neg n_n_p, ← h_x1, ← h_x2, ← h_x3, ← h_x4, ← h_x5] at hh
    exact hh)
  have B1_p : Hid (Blk w1 p 30 #[.int .i64 x1, .int .i64 0, .int .i64 x3, .string ⟨#[]⟩, .slice none 0 0]) := Lib.hid (by
    have hh := hF.blk hpth (X := p) n_p_b (B0_p.out.alloc _)
    simp only [fillC, if_true, if_neg n_p_g, if_neg n_p_n, if_neg n_n_g, if_neg n_n_p, ← h_x1, ← h_x2, ← h_x3, ← h_x4, ← h_x5] at hh
    exact hh)
  have B1_n : Hid (Blk w1 n 3 #[.int .i64 x2]) := Lib.hid (by
    have hh := hF.blk hpth (X := n) n_n_b (B0_n.out.alloc _)
    simp only [fillC, if_true, if_neg n_p_g, if_neg n_p_n, if_neg n_n_g, if_neg n_n_p, ← h_x1, ← h_x2, ← h_x3, ← h_x4, ← h_x5] at hh
    exact hh)
  have R1 : Hid (Rm M w1 b s3) := Lib.hid hr
  have hf := ((((Far.refl (fun i => i = b ∨ ∃ qq ∈ ([⟨p, 0, none⟩, ⟨n, 0, none⟩, ⟨p, 2, none⟩] : List Addr), qq.block = i) w0).alloc (.cells #[.pointer (some ⟨p, 0, none⟩), .pointer (some ⟨n, 0, none⟩), .pointer (some ⟨p, 2, none⟩)] 100))).trans hF.far (fun _ _ e => e))
  have L1 : Hid (Laid2 w1) := Lib.hid (L0.out.far hf (fun e => by
    rcases e with e | ⟨q, hq, e⟩
    · exact HG.out e
    · simp only [List.mem_cons, List.not_mem_nil, or_false] at hq; rcases hq with rfl | rfl | rfl <;> first | exact n_p_G e | exact n_n_G e))
  have F1 : Hid (Far (fun i => i = b) w w1) := Lib.hid (F0.out.trans hf (fun i hi e => by
    rcases e with e | ⟨q, hq, e⟩
    · exact e
    · simp only [List.mem_cons, List.not_mem_nil, or_false] at hq; rcases hq with rfl | rfl | rfl <;> (simp only at e; omega)))
  clear hf
  clear hr hF hpth B0_g B0_p B0_n R0 L0 F0
  have c_n0 := B1_n.out.cell 0
  simp only [List.getElem?_toArray, List.getElem?_cons_succ, List.getElem?_cons_zero] at c_n0
  have c_p1 := B1_p.out.cell 1
  simp only [List.getElem?_toArray, List.getElem?_cons_succ, List.getElem?_cons_zero] at c_p1
  have f_p1 := B1_p.out.frozen 1
  go_upto_region 5 with (fail)
  obtain ⟨w2, hw2⟩ : ∃ z, z = w1.setCell ⟨p, 1, none⟩ (.int .i64 x2) := ⟨_, rfl⟩
  rw [← hw2]
  have B2_g : Hid (Blk w2 g 30 #[.int .i64 0, .int .i64 0, .int .i64 0, .string ⟨#[]⟩, .slice none 0 0]) := Lib.hid (by rw [hw2]; exact B1_g.out.other (p := ⟨p, 1, none⟩) n_g_p _)
  have B2_p : Hid (Blk w2 p 30 #[.int .i64 x1, .int .i64 x2, .int .i64 x3, .string ⟨#[]⟩, .slice none 0 0]) := Lib.hid (by rw [hw2]; exact B1_p.out.set 1 _)
  have B2_n : Hid (Blk w2 n 3 #[.int .i64 x2]) := Lib.hid (by rw [hw2]; exact B1_n.out.other (p := ⟨p, 1, none⟩) n_n_p _)
  have hfs : Far (fun i => i = p) w1 w2 := by rw [hw2]; exact set_far _ _ _ _
  have R2 : Hid (Rm M w2 b s3) := Lib.hid (R1.out.far hfs (fun e => n_p_b e.symm) (fun i hi _ e => by have := HM.out; omega))
  have hf := hfs.mono (S' := fun i => i = b ∨ ∃ qq ∈ ([⟨p, 1, none⟩] : List Addr), qq.block = i) (fun i _ e => .inr ⟨_, List.mem_cons_self, e.symm⟩)
  have L2 : Hid (Laid2 w2) := Lib.hid (L1.out.far hf (fun e => by
    rcases e with e | ⟨q, hq, e⟩
    · exact HG.out e
    · simp only [List.mem_cons, List.not_mem_nil, or_false] at hq; rcases hq with rfl <;> first | exact n_p_G e))
  have F2 : Hid (Far (fun i => i = b) w w2) := Lib.hid (F1.out.trans hf (fun i hi e => by
    rcases e with e | ⟨q, hq, e⟩
    · exact e
    · simp only [List.mem_cons, List.not_mem_nil, or_false] at hq; rcases hq with rfl <;> (simp only at e; omega)))
  clear hf
  clear hw2 hfs B1_g B1_p B1_n R1 L1 F1 c_n0 c_p1 f_p1
  have l2_g := B2_g.out.lt
  have l2_p := B2_p.out.lt
  have l2_n := B2_n.out.lt
  have lb2 := R2.out.lt
  have FT2 := Lib.hid (fillText_any (M := M) (r := s3) (w := w2.alloc (.cells #[.pointer (some ⟨p, 3, none⟩)] 103)) (bk := w2.heap.size) (o := 0) (c := 1) (ps := [⟨p, 3, none⟩]) (R2.out.below ((Below.refl _ _).alloc (Nat.le_refl _) _)) (L2.out.on ((Below.refl _ _).alloc (Nat.le_refl _) _) (Nat.le_refl _)) HG.out (by intro q hq; simp only [List.mem_cons, List.not_mem_nil, or_false] at hq; rcases hq with rfl <;> first | exact n_p_G)
    (by intro q hq; simp only [List.mem_cons, List.not_mem_nil, or_false] at hq; rcases hq with rfl
        · exact ⟨⟨rfl, _, _, B2_p.out.alloc _, by simp⟩, Nat.le_trans HM.out k_p⟩)
    (by omega) (by intro q hq; simp only [List.mem_cons, List.not_mem_nil, or_false] at hq; rcases hq with rfl <;> simp only <;> omega) (by simp) (by simp)
    (by
      intro j q hq
      rw [Nat.zero_add, (Blk.new w2 _ _).cell]
      match j, hq with
      | 0, hq => cases hq; rfl
      | j + 1, hq => simp at hq))
  clear lb2 l2_g l2_p l2_n
  go_upto_region 6 with (go_at_call 70; refine FT2.out.mono ?_; rintro e w3 ⟨rfl, hr, hF⟩; skip)
  clear FT2
  have hpth : ∀ qq ∈ ([⟨p, 3, none⟩] : List Addr), qq.spot = none := by intro q hq; simp only [List.mem_cons, List.not_mem_nil, or_false] at hq; rcases hq with rfl <;> rfl
  simp only [fillR, ← h_x1, ← h_x2, ← h_x3, ← h_x4, ← h_x5] at hr
  have B3_g : Hid (Blk w3 g 30 #[.int .i64 0, .int .i64 0, .int .i64 0, .string ⟨#[]⟩, .slice none 0 0]) := Lib.hid (by
    have hh := hF.blk hpth (X := g) n_g_b (B2_g.out.alloc _)
    simp only [fillC, if_true, if_neg n_p_g, if_neg n_p_n, ← h_x1, ← h_x2, ← h_x3, ← h_x4, ← h_x5] at hh
    exact hh)
  have B3_p : Hid (Blk w3 p 30 #[.int .i64 x1, .int .i64 x2, .int .i64 x3, .string x4, .slice none 0 0]) := Lib.hid (by
    have hh := hF.blk hpth (X := p) n_p_b (B2_p.out.alloc _)
    simp only [fillC, if_true, if_neg n_p_g, if_neg n_p_n, ← h_x1, ← h_x2, ← h_x3, ← h_x4, ← h_x5] at hh
    exact hh)
  have B3_n : Hid (Blk w3 n 3 #[.int .i64 x2]) := Lib.hid (by
    have hh := hF.blk hpth (X := n) n_n_b (B2_n.out.alloc _)
    simp only [fillC, if_true, if_neg n_p_g, if_neg n_p_n, ← h_x1, ← h_x2, ← h_x3, ← h_x4, ← h_x5] at hh
    exact hh)
  have R3 : Hid (Rm M w3 b s4) := Lib.hid hr
  have hf := ((((Far.refl (fun i => i = b ∨ ∃ qq ∈ ([⟨p, 3, none⟩] : List Addr), qq.block = i) w2).alloc (.cells #[.pointer (some ⟨p, 3, none⟩)] 103))).trans hF.far (fun _ _ e => e))
  have L3 : Hid (Laid2 w3) := Lib.hid (L2.out.far hf (fun e => by
    rcases e with e | ⟨q, hq, e⟩
    · exact HG.out e
    · simp only [List.mem_cons, List.not_mem_nil, or_false] at hq; rcases hq with rfl <;> first | exact n_p_G e))
  have F3 : Hid (Far (fun i => i = b) w w3) := Lib.hid (F2.out.trans hf (fun i hi e => by
    rcases e with e | ⟨q, hq, e⟩
    · exact e
    · simp only [List.mem_cons, List.not_mem_nil, or_false] at hq; rcases hq with rfl <;> (simp only at e; omega)))
  clear hf
  clear hr hF hpth B2_g B2_p B2_n R2 L2 F2
  have RW := Lib.hid (rowsC_any R3.out (Nat.le_trans HM.out F3.out.size) L3.out HG.out)
  simp only [← h_x1, ← h_x2, ← h_x3, ← h_x4, ← h_x5] at RW
  go_upto_region 7 with (go_at_call 76; refine RW.out.mono ?_; rintro e wx ⟨vl, rfl, hown, hr, hf⟩; obtain ⟨A, c, rfl⟩ := own_shape hown; have BX := B3_p.out.far hf n_p_b; have cx := BX.cell 4; have fx := BX.frozen 4; simp only [List.getElem?_toArray, List.getElem?_cons_succ, List.getElem?_cons_zero] at cx; clear BX)
  clear cx fx RW
  obtain ⟨w4, hw4⟩ : ∃ z, z = wx.setCell ⟨p, 4, none⟩ (.slice A x5.length c) := ⟨_, rfl⟩
  rw [← hw4]
  have B4_g : Hid (Blk w4 g 30 #[.int .i64 0, .int .i64 0, .int .i64 0, .string ⟨#[]⟩, .slice none 0 0]) := Lib.hid (by rw [hw4]; exact (B3_g.out.far hf n_g_b).other (p := ⟨p, 4, none⟩) n_g_p _)
  have B4_p : Hid (Blk w4 p 30 #[.int .i64 x1, .int .i64 x2, .int .i64 x3, .string x4, .slice A x5.length c]) := Lib.hid (by rw [hw4]; exact (B3_p.out.far hf n_p_b).set 4 _)
  have B4_n : Hid (Blk w4 n 3 #[.int .i64 x2]) := Lib.hid (by rw [hw4]; exact (B3_n.out.far hf n_n_b).other (p := ⟨p, 4, none⟩) n_n_p _)
  have hfs : Far (fun i => i = p) wx w4 := by rw [hw4]; exact set_far _ _ _ _
  have R4 : Hid (Rm M w4 b s5) := Lib.hid (hr.far hfs (fun e => n_p_b e.symm) (fun i hi _ e => by have := HM.out; omega))
  have l_g := B3_g.out.lt
  have l_p := B3_p.out.lt
  have l_n := B3_n.out.lt
  have lb := R3.out.lt
  obtain ⟨base, hbase⟩ : ∃ base, base = w3.heap.size := ⟨_, rfl⟩
  rw [← hbase] at hown lb l_g l_p l_n
  have OW4 : Hid (w4.ownsRow base 54 3 (.slice A x5.length c) x5.length (flatC x5)) := Lib.hid (own_far hown hfs (fun i hi e => by have := (hown.lt i hi).1; omega))
  have hf := ((hf.mono (S' := fun i => i = b ∨ ∃ qq ∈ ([⟨p, 4, none⟩] : List Addr), qq.block = i) (fun i _ e => .inl e)).trans (hfs.mono (S' := fun i => i = b ∨ ∃ qq ∈ ([⟨p, 4, none⟩] : List Addr), qq.block = i) (fun i _ e => .inr ⟨_, List.mem_cons_self, e.symm⟩)) (fun _ _ e => e))
  have L4 : Hid (Laid2 w4) := Lib.hid (L3.out.far hf (fun e => by
    rcases e with e | ⟨q, hq, e⟩
    · exact HG.out e
    · simp only [List.mem_cons, List.not_mem_nil, or_false] at hq; rcases hq with rfl <;> first | exact n_p_G e))
  have F4 : Hid (Far (fun i => i = b) w w4) := Lib.hid (F3.out.trans hf (fun i hi e => by
    rcases e with e | ⟨q, hq, e⟩
    · exact e
    · simp only [List.mem_cons, List.not_mem_nil, or_false] at hq; rcases hq with rfl <;> (simp only at e; omega)))
  clear hf
  clear hw4 hfs hr hf hown hbase B3_g B3_p B3_n R3 L3 F3
  have c_p0 := B4_p.out.cell 0
  have c_p1 := B4_p.out.cell 1
  have c_p2 := B4_p.out.cell 2
  have c_p3 := B4_p.out.cell 3
  have c_p4 := B4_p.out.cell 4
  simp only [List.getElem?_toArray, List.getElem?_cons_succ, List.getElem?_cons_zero] at c_p0 c_p1 c_p2 c_p3 c_p4
  have c_g0 := B4_g.out.cell 0
  have c_g1 := B4_g.out.cell 1
  have c_g2 := B4_g.out.cell 2
  have c_g3 := B4_g.out.cell 3
  have c_g4 := B4_g.out.cell 4
  simp only [List.getElem?_toArray, List.getElem?_cons_succ, List.getElem?_cons_zero] at c_g0 c_g1 c_g2 c_g3 c_g4
  have f_g0 := B4_g.out.frozen 0
  have f_g1 := B4_g.out.frozen 1
  have f_g2 := B4_g.out.frozen 2
  have f_g3 := B4_g.out.frozen 3
  have f_g4 := B4_g.out.frozen 4
  go_wp2_with fail
  have h5 : Blk (((((w4.setCell ⟨g, 0, none⟩ (.int .i64 x1)).setCell ⟨g, 1, none⟩ (.int .i64 x2)).setCell ⟨g, 2, none⟩ (.int .i64 x3)).setCell ⟨g, 3, none⟩ (.string x4)).setCell ⟨g, 4, none⟩ (.slice A x5.length c)) g 30 [(.int .i64 x1 : Value), (.int .i64 x2 : Value), (.int .i64 x3 : Value), (.string x4 : Value), (.slice A x5.length c : Value)].toArray := (((((B4_g.out).set 0 _).set 1 _).set 2 _).set 3 _).set 4 _
  have f5 : Far (fun i => i = g) w4 (((((w4.setCell ⟨g, 0, none⟩ (.int .i64 x1)).setCell ⟨g, 1, none⟩ (.int .i64 x2)).setCell ⟨g, 2, none⟩ (.int .i64 x3)).setCell ⟨g, 3, none⟩ (.string x4)).setCell ⟨g, 4, none⟩ (.slice A x5.length c)) := ((((set_far _ _ _ _).trans (set_far _ _ _ _) (fun _ _ e => e)).trans (set_far _ _ _ _) (fun _ _ e => e)).trans (set_far _ _ _ _) (fun _ _ e => e)).trans (set_far _ _ _ _) (fun _ _ e => e)
  refine bodyPost_ret (results_b1 rfl isAggN sizeN _ _ g rfl h5 rfl) rfl ?_
  have hM := HM.out
  have RZ := R4.out.far f5 (fun e => n_g_b e.symm) (fun i hi _ e => by omega)
  have FZ := F4.out.trans f5 (fun i hi e => by omega)
  exact ⟨_, rfl, row_mono (own_far OW4.out f5 (fun i hi e => by have := (OW4.out.lt i hi).1; omega)) (by omega), RZ, FZ⟩
end Go.Proofs.YtlbebdkockejcaaGreatDoor

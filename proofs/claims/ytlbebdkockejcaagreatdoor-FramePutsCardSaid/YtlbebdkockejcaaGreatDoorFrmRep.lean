/-
  Package frame: a reply is read.
-/
import Derived.Test.YtlbebdkockejcaaGreatDoorFrmRows
import Derived.Test.YtlbebdkockejcaaGreatDoorGaFrB
import Derived.Deep.Cut
import Derived.Deep.CutBlock
namespace Go.Proofs.YtlbebdkockejcaaGreatDoor
open Go.RowKit Go.Proofs.Frm Go.Proofs.Mdl
set_option linter.unusedVariables false
set_option linter.unusedSimpArgs false
theorem isAggR (w : World) : (isAgg 27).run Tryz.prog w = .ok true w := by kernel_rfl
theorem sizeR (w : World) : (sizeOf 27).run Tryz.prog w = .ok 8 w := by kernel_rfl
/-- A reply's cells. -/
def cellR (r : Frm.Rep) (v : Value) : List Value := [.int .i64 r.session, .int .i64 r.seq, .int .i64 r.err, .int .i64 r.version, .string r.root, v, .string r.proof, .bool r.more]
set_option maxRecDepth 100000 in
set_option maxHeartbeats 4000000 in
/-- A reply is read. -/
theorem repR_any {M b : Nat} {r : Rd} {w : World} (h : Rm M w b r) (hM : M ≤ w.heap.size) (hl : Laid2 w) (hg : 0 ≠ b) :
    Calls Tryz.prog 51 #[.pointer (some ⟨b, 0, none⟩)] w fun e w' => ∃ vl, e = .returned (.agg (cellR (repR r).1 vl).toArray) ∧ w'.ownsRow w.heap.size 52 2 vl (repR r).1.entries.length (flatE (repR r).1.entries) ∧ Rm M w' b (repR r).2 ∧ Far (fun i => i = b) w w' := by
  obtain ⟨w0, g, p, n, m, hw, e_g, e_p, e_n, e_m, hb, b_g, b_p, b_n, b_m, hz⟩ := boxes4 w 27 27 3 3 #[.int .i64 0, .int .i64 0, .int .i64 0, .int .i64 0, .string ⟨#[]⟩, .slice none 0 0, .string ⟨#[]⟩, .bool false] #[.int .i64 0, .int .i64 0, .int .i64 0, .int .i64 0, .string ⟨#[]⟩, .slice none 0 0, .string ⟨#[]⟩, .bool false] #[.int .i64 0] #[.int .i64 0]
  have hlt := h.lt
  have hgl := hl.lt
  have n_g_p : g ≠ p := by omega
  have n_g_n : g ≠ n := by omega
  have n_g_m : g ≠ m := by omega
  have n_g_b : g ≠ b := by omega
  have n_g_G : g ≠ 0 := by omega
  have n_p_g : p ≠ g := by omega
  have n_p_n : p ≠ n := by omega
  have n_p_m : p ≠ m := by omega
  have n_p_b : p ≠ b := by omega
  have n_p_G : p ≠ 0 := by omega
  have n_n_g : n ≠ g := by omega
  have n_n_p : n ≠ p := by omega
  have n_n_m : n ≠ m := by omega
  have n_n_b : n ≠ b := by omega
  have n_n_G : n ≠ 0 := by omega
  have n_m_g : m ≠ g := by omega
  have n_m_p : m ≠ p := by omega
  have n_m_n : m ≠ n := by omega
  have n_m_b : m ≠ b := by omega
  have n_m_G : m ≠ 0 := by omega
  have k_g : w.heap.size ≤ g := by omega
  have k_p : w.heap.size ≤ p := by omega
  have k_n : w.heap.size ≤ n := by omega
  have k_m : w.heap.size ≤ m := by omega
  have R0 : Hid (Rm M w0 b r) := Lib.hid (h.below hb)
  have L0 : Hid (Laid2 w0) := Lib.hid (hl.on hb (Nat.le_refl _))
  have F0 : Hid (Far (fun i => i = b) w w0) := Lib.hid ((far_of_below hb).mono (fun _ _ e => e.elim))
  have B0_g : Hid (Blk w0 g 27 #[.int .i64 0, .int .i64 0, .int .i64 0, .int .i64 0, .string ⟨#[]⟩, .slice none 0 0, .string ⟨#[]⟩, .bool false]) := Lib.hid b_g
  have B0_p : Hid (Blk w0 p 27 #[.int .i64 0, .int .i64 0, .int .i64 0, .int .i64 0, .string ⟨#[]⟩, .slice none 0 0, .string ⟨#[]⟩, .bool false]) := Lib.hid b_p
  have B0_n : Hid (Blk w0 n 3 #[.int .i64 0]) := Lib.hid b_n
  have B0_m : Hid (Blk w0 m 3 #[.int .i64 0]) := Lib.hid b_m
  have HM := Lib.hid hM
  have HG := Lib.hid hg
  have HLT := Lib.hid hlt
  have HGL := Lib.hid hgl
  clear h hM hl hg hb hlt hgl hz b_g b_p b_n b_m
  obtain ⟨⟨x1, s1⟩, h_x1⟩ : ∃ z, z = rdNum r := ⟨_, rfl⟩
  obtain ⟨⟨x2, s2⟩, h_x2⟩ : ∃ z, z = rdNum s1 := ⟨_, rfl⟩
  obtain ⟨⟨x3, s3⟩, h_x3⟩ : ∃ z, z = rdNum s2 := ⟨_, rfl⟩
  obtain ⟨⟨x4, s4⟩, h_x4⟩ : ∃ z, z = rdNum s3 := ⟨_, rfl⟩
  obtain ⟨⟨x5, s5⟩, h_x5⟩ : ∃ z, z = rdText s4 := ⟨_, rfl⟩
  obtain ⟨⟨x6, s6⟩, h_x6⟩ : ∃ z, z = rdRows entR s5 := ⟨_, rfl⟩
  obtain ⟨⟨x7, s7⟩, h_x7⟩ : ∃ z, z = rdText s6 := ⟨_, rfl⟩
  obtain ⟨⟨x8, s8⟩, h_x8⟩ : ∃ z, z = rdNum s7 := ⟨_, rfl⟩
  have hres : repR r = (⟨x1, x2, x3, x4, x5, x6, x7, decide (x8 = 1)⟩, s8) := by
    unfold repR
    simp only
    rw [← h_x1]; simp only; rw [← h_x2]; simp only; rw [← h_x3]; simp only; rw [← h_x4]; simp only; rw [← h_x5]; simp only; rw [← h_x6]; simp only; rw [← h_x7]; simp only; rw [← h_x8]
  rw [hres]
  clear hres
  obtain ⟨go, hgo⟩ : ∃ go, decide (x8 = 1) = go := ⟨_, rfl⟩
  rw [hgo]
  have hgo2 : (x8 == 1) = go := by rw [← hgo, Bool.eq_iff_iff]; simp
  go_enter Tryz.func51, Tryz.ntmps51
  go_upto_region 3 with (fail)
  rw [← hw, ← e_m, ← e_n, ← e_p, ← e_g]
  clear hw e_g e_p e_n e_m
  have l0_g := B0_g.out.lt
  have l0_p := B0_p.out.lt
  have l0_n := B0_n.out.lt
  have l0_m := B0_m.out.lt
  have lb0 := R0.out.lt
  have FT0 := Lib.hid (fillNum_any (M := M) (r := r) (w := w0.alloc (.cells #[.pointer (some ⟨p, 0, none⟩), .pointer (some ⟨p, 1, none⟩), .pointer (some ⟨n, 0, none⟩), .pointer (some ⟨p, 3, none⟩)] 100)) (bk := w0.heap.size) (o := 0) (c := 4) (ps := [⟨p, 0, none⟩, ⟨p, 1, none⟩, ⟨n, 0, none⟩, ⟨p, 3, none⟩]) (R0.out.below ((Below.refl _ _).alloc (Nat.le_refl _) _))
    (by intro q hq; simp only [List.mem_cons, List.not_mem_nil, or_false] at hq; rcases hq with rfl | rfl | rfl | rfl
        · exact ⟨⟨rfl, _, _, B0_p.out.alloc _, by simp⟩, Nat.le_trans HM.out k_p⟩
        · exact ⟨⟨rfl, _, _, B0_p.out.alloc _, by simp⟩, Nat.le_trans HM.out k_p⟩
        · exact ⟨⟨rfl, _, _, B0_n.out.alloc _, by simp⟩, Nat.le_trans HM.out k_n⟩
        · exact ⟨⟨rfl, _, _, B0_p.out.alloc _, by simp⟩, Nat.le_trans HM.out k_p⟩)
    (by omega) (by intro q hq; simp only [List.mem_cons, List.not_mem_nil, or_false] at hq; rcases hq with rfl | rfl | rfl | rfl <;> simp only <;> omega) (by simp) (by simp)
    (by
      intro j q hq
      rw [Nat.zero_add, (Blk.new w0 _ _).cell]
      match j, hq with
      | 0, hq => cases hq; rfl
      | 1, hq => cases hq; rfl
      | 2, hq => cases hq; rfl
      | 3, hq => cases hq; rfl
      | j + 4, hq => simp at hq))
  clear lb0 l0_g l0_p l0_n l0_m
  go_upto_region 4 with (go_at_call 69; refine FT0.out.mono ?_; rintro e w1 ⟨rfl, hr, hF⟩; skip)
  clear FT0
  have hpth : ∀ qq ∈ ([⟨p, 0, none⟩, ⟨p, 1, none⟩, ⟨n, 0, none⟩, ⟨p, 3, none⟩] : List Addr), qq.spot = none := by intro q hq; simp only [List.mem_cons, List.not_mem_nil, or_false] at hq; rcases hq with rfl | rfl | rfl | rfl <;> rfl
  simp only [fillR, ← h_x1, ← h_x2, ← h_x3, ← h_x4, ← h_x5, ← h_x6, ← h_x7, ← h_x8] at hr
  have B1_g : Hid (Blk w1 g 27 #[.int .i64 0, .int .i64 0, .int .i64 0, .int .i64 0, .string ⟨#[]⟩, .slice none 0 0, .string ⟨#[]⟩, .bool false]) := Lib.hid (by
    have hh := hF.blk hpth (X := g) n_g_b (B0_g.out.alloc _)
    simp only [fillC, if_true, if_neg n_p_g, if_neg n_p_n, if_neg n_p_m, if_neg n_n_g, if_neg n_n_p, if_neg n_n_m, ← h_x1, ← h_x2, ← h_x3, ← h_x4, ← h_x5, ← h_x6, ← h_x7, ← h_x8] at hh
    exact hh)
  have B1_p : Hid (Blk w1 p 27 #[.int .i64 x1, .int .i64 x2, .int .i64 0, .int .i64 x4, .string ⟨#[]⟩, .slice none 0 0, .string ⟨#[]⟩, .bool false]) := Lib.hid (by
    have hh := hF.blk hpth (X := p) n_p_b (B0_p.out.alloc _)
    simp only [fillC, if_true, if_neg n_p_g, if_neg n_p_n, if_neg n_p_m, if_neg n_n_g, if_neg n_n_p, if_neg n_n_m, ← h_x1, ← h_x2, ← h_x3, ← h_x4, ← h_x5, ← h_x6, ← h_x7, ← h_x8] at hh
    exact hh)
  have B1_n : Hid (Blk w1 n 3 #[.int .i64 x3]) := Lib.hid (by
    have hh := hF.blk hpth (X := n) n_n_b (B0_n.out.alloc _)
    simp only [fillC, if_true, if_neg n_p_g, if_neg n_p_n, if_neg n_p_m, if_neg n_n_g, if_neg n_n_p, if_neg n_n_m, ← h_x1, ← h_x2, ← h_x3, ← h_x4, ← h_x5, ← h_x6, ← h_x7, ← h_x8] at hh
    exact hh)
  have B1_m : Hid (Blk w1 m 3 #[.int .i64 0]) := Lib.hid (by
    have hh := hF.blk hpth (X := m) n_m_b (B0_m.out.alloc _)
    simp only [fillC, if_true, if_neg n_p_g, if_neg n_p_n, if_neg n_p_m, if_neg n_n_g, if_neg n_n_p, if_neg n_n_m, ← h_x1, ← h_x2, ← h_x3, ← h_x4, ← h_x5, ← h_x6, ← h_x7, ← h_x8] at hh
    exact hh)
  have R1 : Hid (Rm M w1 b s4) := Lib.hid hr
  have hf := ((((Far.refl (fun i => i = b ∨ ∃ qq ∈ ([⟨p, 0, none⟩, ⟨p, 1, none⟩, ⟨n, 0, none⟩, ⟨p, 3, none⟩] : List Addr), qq.block = i) w0).alloc (.cells #[.pointer (some ⟨p, 0, none⟩), .pointer (some ⟨p, 1, none⟩), .pointer (some ⟨n, 0, none⟩), .pointer (some ⟨p, 3, none⟩)] 100))).trans hF.far (fun _ _ e => e))
  have L1 : Hid (Laid2 w1) := Lib.hid (L0.out.far hf (fun e => by
    rcases e with e | ⟨q, hq, e⟩
    · exact HG.out e
    · simp only [List.mem_cons, List.not_mem_nil, or_false] at hq; rcases hq with rfl | rfl | rfl | rfl <;> first | exact n_p_G e | exact n_n_G e))
  have F1 : Hid (Far (fun i => i = b) w w1) := Lib.hid (F0.out.trans hf (fun i hi e => by
    rcases e with e | ⟨q, hq, e⟩
    · exact e
    · simp only [List.mem_cons, List.not_mem_nil, or_false] at hq; rcases hq with rfl | rfl | rfl | rfl <;> (simp only at e; omega)))
  clear hf
  clear hr hF hpth B0_g B0_p B0_n B0_m R0 L0 F0
  have c_n0 := B1_n.out.cell 0
  simp only [List.getElem?_toArray, List.getElem?_cons_succ, List.getElem?_cons_zero] at c_n0
  have c_p2 := B1_p.out.cell 2
  simp only [List.getElem?_toArray, List.getElem?_cons_succ, List.getElem?_cons_zero] at c_p2
  have f_p2 := B1_p.out.frozen 2
  go_upto_region 5 with (fail)
  obtain ⟨w2, hw2⟩ : ∃ z, z = w1.setCell ⟨p, 2, none⟩ (.int .i64 x3) := ⟨_, rfl⟩
  rw [← hw2]
  have B2_g : Hid (Blk w2 g 27 #[.int .i64 0, .int .i64 0, .int .i64 0, .int .i64 0, .string ⟨#[]⟩, .slice none 0 0, .string ⟨#[]⟩, .bool false]) := Lib.hid (by rw [hw2]; exact B1_g.out.other (p := ⟨p, 2, none⟩) n_g_p _)
  have B2_p : Hid (Blk w2 p 27 #[.int .i64 x1, .int .i64 x2, .int .i64 x3, .int .i64 x4, .string ⟨#[]⟩, .slice none 0 0, .string ⟨#[]⟩, .bool false]) := Lib.hid (by rw [hw2]; exact B1_p.out.set 2 _)
  have B2_n : Hid (Blk w2 n 3 #[.int .i64 x3]) := Lib.hid (by rw [hw2]; exact B1_n.out.other (p := ⟨p, 2, none⟩) n_n_p _)
  have B2_m : Hid (Blk w2 m 3 #[.int .i64 0]) := Lib.hid (by rw [hw2]; exact B1_m.out.other (p := ⟨p, 2, none⟩) n_m_p _)
  have hfs : Far (fun i => i = p) w1 w2 := by rw [hw2]; exact set_far _ _ _ _
  have R2 : Hid (Rm M w2 b s4) := Lib.hid (R1.out.far hfs (fun e => n_p_b e.symm) (fun i hi _ e => by have := HM.out; omega))
  have hf := hfs.mono (S' := fun i => i = b ∨ ∃ qq ∈ ([⟨p, 2, none⟩] : List Addr), qq.block = i) (fun i _ e => .inr ⟨_, List.mem_cons_self, e.symm⟩)
  have L2 : Hid (Laid2 w2) := Lib.hid (L1.out.far hf (fun e => by
    rcases e with e | ⟨q, hq, e⟩
    · exact HG.out e
    · simp only [List.mem_cons, List.not_mem_nil, or_false] at hq; rcases hq with rfl <;> first | exact n_p_G e))
  have F2 : Hid (Far (fun i => i = b) w w2) := Lib.hid (F1.out.trans hf (fun i hi e => by
    rcases e with e | ⟨q, hq, e⟩
    · exact e
    · simp only [List.mem_cons, List.not_mem_nil, or_false] at hq; rcases hq with rfl <;> (simp only at e; omega)))
  clear hf
  clear hw2 hfs B1_g B1_p B1_n B1_m R1 L1 F1 c_n0 c_p2 f_p2
  have l2_g := B2_g.out.lt
  have l2_p := B2_p.out.lt
  have l2_n := B2_n.out.lt
  have l2_m := B2_m.out.lt
  have lb2 := R2.out.lt
  have FT2 := Lib.hid (fillText_any (M := M) (r := s4) (w := w2.alloc (.cells #[.pointer (some ⟨p, 4, none⟩)] 103)) (bk := w2.heap.size) (o := 0) (c := 1) (ps := [⟨p, 4, none⟩]) (R2.out.below ((Below.refl _ _).alloc (Nat.le_refl _) _)) (L2.out.on ((Below.refl _ _).alloc (Nat.le_refl _) _) (Nat.le_refl _)) HG.out (by intro q hq; simp only [List.mem_cons, List.not_mem_nil, or_false] at hq; rcases hq with rfl <;> first | exact n_p_G)
    (by intro q hq; simp only [List.mem_cons, List.not_mem_nil, or_false] at hq; rcases hq with rfl
        · exact ⟨⟨rfl, _, _, B2_p.out.alloc _, by simp⟩, Nat.le_trans HM.out k_p⟩)
    (by omega) (by intro q hq; simp only [List.mem_cons, List.not_mem_nil, or_false] at hq; rcases hq with rfl <;> simp only <;> omega) (by simp) (by simp)
    (by
      intro j q hq
      rw [Nat.zero_add, (Blk.new w2 _ _).cell]
      match j, hq with
      | 0, hq => cases hq; rfl
      | j + 1, hq => simp at hq))
  clear lb2 l2_g l2_p l2_n l2_m
  go_upto_region 6 with (go_at_call 70; refine FT2.out.mono ?_; rintro e w3 ⟨rfl, hr, hF⟩; skip)
  clear FT2
  have hpth : ∀ qq ∈ ([⟨p, 4, none⟩] : List Addr), qq.spot = none := by intro q hq; simp only [List.mem_cons, List.not_mem_nil, or_false] at hq; rcases hq with rfl <;> rfl
  simp only [fillR, ← h_x1, ← h_x2, ← h_x3, ← h_x4, ← h_x5, ← h_x6, ← h_x7, ← h_x8] at hr
  have B3_g : Hid (Blk w3 g 27 #[.int .i64 0, .int .i64 0, .int .i64 0, .int .i64 0, .string ⟨#[]⟩, .slice none 0 0, .string ⟨#[]⟩, .bool false]) := Lib.hid (by
    have hh := hF.blk hpth (X := g) n_g_b (B2_g.out.alloc _)
    simp only [fillC, if_true, if_neg n_p_g, if_neg n_p_n, if_neg n_p_m, ← h_x1, ← h_x2, ← h_x3, ← h_x4, ← h_x5, ← h_x6, ← h_x7, ← h_x8] at hh
    exact hh)
  have B3_p : Hid (Blk w3 p 27 #[.int .i64 x1, .int .i64 x2, .int .i64 x3, .int .i64 x4, .string x5, .slice none 0 0, .string ⟨#[]⟩, .bool false]) := Lib.hid (by
    have hh := hF.blk hpth (X := p) n_p_b (B2_p.out.alloc _)
    simp only [fillC, if_true, if_neg n_p_g, if_neg n_p_n, if_neg n_p_m, ← h_x1, ← h_x2, ← h_x3, ← h_x4, ← h_x5, ← h_x6, ← h_x7, ← h_x8] at hh
    exact hh)
  have B3_n : Hid (Blk w3 n 3 #[.int .i64 x3]) := Lib.hid (by
    have hh := hF.blk hpth (X := n) n_n_b (B2_n.out.alloc _)
    simp only [fillC, if_true, if_neg n_p_g, if_neg n_p_n, if_neg n_p_m, ← h_x1, ← h_x2, ← h_x3, ← h_x4, ← h_x5, ← h_x6, ← h_x7, ← h_x8] at hh
    exact hh)
  have B3_m : Hid (Blk w3 m 3 #[.int .i64 0]) := Lib.hid (by
    have hh := hF.blk hpth (X := m) n_m_b (B2_m.out.alloc _)
    simp only [fillC, if_true, if_neg n_p_g, if_neg n_p_n, if_neg n_p_m, ← h_x1, ← h_x2, ← h_x3, ← h_x4, ← h_x5, ← h_x6, ← h_x7, ← h_x8] at hh
    exact hh)
  have R3 : Hid (Rm M w3 b s5) := Lib.hid hr
  have hf := ((((Far.refl (fun i => i = b ∨ ∃ qq ∈ ([⟨p, 4, none⟩] : List Addr), qq.block = i) w2).alloc (.cells #[.pointer (some ⟨p, 4, none⟩)] 103))).trans hF.far (fun _ _ e => e))
  have L3 : Hid (Laid2 w3) := Lib.hid (L2.out.far hf (fun e => by
    rcases e with e | ⟨q, hq, e⟩
    · exact HG.out e
    · simp only [List.mem_cons, List.not_mem_nil, or_false] at hq; rcases hq with rfl <;> first | exact n_p_G e))
  have F3 : Hid (Far (fun i => i = b) w w3) := Lib.hid (F2.out.trans hf (fun i hi e => by
    rcases e with e | ⟨q, hq, e⟩
    · exact e
    · simp only [List.mem_cons, List.not_mem_nil, or_false] at hq; rcases hq with rfl <;> (simp only at e; omega)))
  clear hf
  clear hr hF hpth B2_g B2_p B2_n B2_m R2 L2 F2
  have RW := Lib.hid (rowsE_any R3.out (Nat.le_trans HM.out F3.out.size) L3.out HG.out)
  simp only [← h_x1, ← h_x2, ← h_x3, ← h_x4, ← h_x5, ← h_x6, ← h_x7, ← h_x8] at RW
  go_upto_region 7 with (go_at_call 74; refine RW.out.mono ?_; rintro e wx ⟨vl, rfl, hown, hr, hf⟩; obtain ⟨A, c, rfl⟩ := own_shape hown; have BX := B3_p.out.far hf n_p_b; have cx := BX.cell 5; have fx := BX.frozen 5; simp only [List.getElem?_toArray, List.getElem?_cons_succ, List.getElem?_cons_zero] at cx; clear BX)
  clear cx fx RW
  obtain ⟨w4, hw4⟩ : ∃ z, z = wx.setCell ⟨p, 5, none⟩ (.slice A x6.length c) := ⟨_, rfl⟩
  rw [← hw4]
  have B4_g : Hid (Blk w4 g 27 #[.int .i64 0, .int .i64 0, .int .i64 0, .int .i64 0, .string ⟨#[]⟩, .slice none 0 0, .string ⟨#[]⟩, .bool false]) := Lib.hid (by rw [hw4]; exact (B3_g.out.far hf n_g_b).other (p := ⟨p, 5, none⟩) n_g_p _)
  have B4_p : Hid (Blk w4 p 27 #[.int .i64 x1, .int .i64 x2, .int .i64 x3, .int .i64 x4, .string x5, .slice A x6.length c, .string ⟨#[]⟩, .bool false]) := Lib.hid (by rw [hw4]; exact (B3_p.out.far hf n_p_b).set 5 _)
  have B4_n : Hid (Blk w4 n 3 #[.int .i64 x3]) := Lib.hid (by rw [hw4]; exact (B3_n.out.far hf n_n_b).other (p := ⟨p, 5, none⟩) n_n_p _)
  have B4_m : Hid (Blk w4 m 3 #[.int .i64 0]) := Lib.hid (by rw [hw4]; exact (B3_m.out.far hf n_m_b).other (p := ⟨p, 5, none⟩) n_m_p _)
  have hfs : Far (fun i => i = p) wx w4 := by rw [hw4]; exact set_far _ _ _ _
  have R4 : Hid (Rm M w4 b s6) := Lib.hid (hr.far hfs (fun e => n_p_b e.symm) (fun i hi _ e => by have := HM.out; omega))
  have l_g := B3_g.out.lt
  have l_p := B3_p.out.lt
  have l_n := B3_n.out.lt
  have l_m := B3_m.out.lt
  have lb := R3.out.lt
  obtain ⟨base, hbase⟩ : ∃ base, base = w3.heap.size := ⟨_, rfl⟩
  rw [← hbase] at hown lb l_g l_p l_n l_m
  have OW4 : Hid (w4.ownsRow base 52 2 (.slice A x6.length c) x6.length (flatE x6)) := Lib.hid (own_far hown hfs (fun i hi e => by have := (hown.lt i hi).1; omega))
  have hf := ((hf.mono (S' := fun i => i = b ∨ ∃ qq ∈ ([⟨p, 5, none⟩] : List Addr), qq.block = i) (fun i _ e => .inl e)).trans (hfs.mono (S' := fun i => i = b ∨ ∃ qq ∈ ([⟨p, 5, none⟩] : List Addr), qq.block = i) (fun i _ e => .inr ⟨_, List.mem_cons_self, e.symm⟩)) (fun _ _ e => e))
  have L4 : Hid (Laid2 w4) := Lib.hid (L3.out.far hf (fun e => by
    rcases e with e | ⟨q, hq, e⟩
    · exact HG.out e
    · simp only [List.mem_cons, List.not_mem_nil, or_false] at hq; rcases hq with rfl <;> first | exact n_p_G e))
  have F4 : Hid (Far (fun i => i = b) w w4) := Lib.hid (F3.out.trans hf (fun i hi e => by
    rcases e with e | ⟨q, hq, e⟩
    · exact e
    · simp only [List.mem_cons, List.not_mem_nil, or_false] at hq; rcases hq with rfl <;> (simp only at e; omega)))
  clear hf
  clear hw4 hfs hr hf hown hbase B3_g B3_p B3_n B3_m R3 L3 F3
  have l4_g := B4_g.out.lt
  have l4_p := B4_p.out.lt
  have l4_n := B4_n.out.lt
  have l4_m := B4_m.out.lt
  have lb4 := R4.out.lt
  have FT4 := Lib.hid (fillText_any (M := M) (r := s6) (w := w4.alloc (.cells #[.pointer (some ⟨p, 6, none⟩)] 103)) (bk := w4.heap.size) (o := 0) (c := 1) (ps := [⟨p, 6, none⟩]) (R4.out.below ((Below.refl _ _).alloc (Nat.le_refl _) _)) (L4.out.on ((Below.refl _ _).alloc (Nat.le_refl _) _) (Nat.le_refl _)) HG.out (by intro q hq; simp only [List.mem_cons, List.not_mem_nil, or_false] at hq; rcases hq with rfl <;> first | exact n_p_G)
    (by intro q hq; simp only [List.mem_cons, List.not_mem_nil, or_false] at hq; rcases hq with rfl
        · exact ⟨⟨rfl, _, _, B4_p.out.alloc _, by simp⟩, Nat.le_trans HM.out k_p⟩)
    (by omega) (by intro q hq; simp only [List.mem_cons, List.not_mem_nil, or_false] at hq; rcases hq with rfl <;> simp only <;> omega) (by simp) (by simp)
    (by
      intro j q hq
      rw [Nat.zero_add, (Blk.new w4 _ _).cell]
      match j, hq with
      | 0, hq => cases hq; rfl
      | j + 1, hq => simp at hq))
  clear lb4 l4_g l4_p l4_n l4_m
  go_upto_region 8 with (go_at_call 70; refine FT4.out.mono ?_; rintro e w5 ⟨rfl, hr, hF⟩; skip)
  clear FT4
  have hpth : ∀ qq ∈ ([⟨p, 6, none⟩] : List Addr), qq.spot = none := by intro q hq; simp only [List.mem_cons, List.not_mem_nil, or_false] at hq; rcases hq with rfl <;> rfl
  simp only [fillR, ← h_x1, ← h_x2, ← h_x3, ← h_x4, ← h_x5, ← h_x6, ← h_x7, ← h_x8] at hr
  have B5_g : Hid (Blk w5 g 27 #[.int .i64 0, .int .i64 0, .int .i64 0, .int .i64 0, .string ⟨#[]⟩, .slice none 0 0, .string ⟨#[]⟩, .bool false]) := Lib.hid (by
    have hh := hF.blk hpth (X := g) n_g_b (B4_g.out.alloc _)
    simp only [fillC, if_true, if_neg n_p_g, if_neg n_p_n, if_neg n_p_m, ← h_x1, ← h_x2, ← h_x3, ← h_x4, ← h_x5, ← h_x6, ← h_x7, ← h_x8] at hh
    exact hh)
  have B5_p : Hid (Blk w5 p 27 #[.int .i64 x1, .int .i64 x2, .int .i64 x3, .int .i64 x4, .string x5, .slice A x6.length c, .string x7, .bool false]) := Lib.hid (by
    have hh := hF.blk hpth (X := p) n_p_b (B4_p.out.alloc _)
    simp only [fillC, if_true, if_neg n_p_g, if_neg n_p_n, if_neg n_p_m, ← h_x1, ← h_x2, ← h_x3, ← h_x4, ← h_x5, ← h_x6, ← h_x7, ← h_x8] at hh
    exact hh)
  have B5_n : Hid (Blk w5 n 3 #[.int .i64 x3]) := Lib.hid (by
    have hh := hF.blk hpth (X := n) n_n_b (B4_n.out.alloc _)
    simp only [fillC, if_true, if_neg n_p_g, if_neg n_p_n, if_neg n_p_m, ← h_x1, ← h_x2, ← h_x3, ← h_x4, ← h_x5, ← h_x6, ← h_x7, ← h_x8] at hh
    exact hh)
  have B5_m : Hid (Blk w5 m 3 #[.int .i64 0]) := Lib.hid (by
    have hh := hF.blk hpth (X := m) n_m_b (B4_m.out.alloc _)
    simp only [fillC, if_true, if_neg n_p_g, if_neg n_p_n, if_neg n_p_m, ← h_x1, ← h_x2, ← h_x3, ← h_x4, ← h_x5, ← h_x6, ← h_x7, ← h_x8] at hh
    exact hh)
  have R5 : Hid (Rm M w5 b s7) := Lib.hid hr
  have hf := ((((Far.refl (fun i => i = b ∨ ∃ qq ∈ ([⟨p, 6, none⟩] : List Addr), qq.block = i) w4).alloc (.cells #[.pointer (some ⟨p, 6, none⟩)] 103))).trans hF.far (fun _ _ e => e))
  have L5 : Hid (Laid2 w5) := Lib.hid (L4.out.far hf (fun e => by
    rcases e with e | ⟨q, hq, e⟩
    · exact HG.out e
    · simp only [List.mem_cons, List.not_mem_nil, or_false] at hq; rcases hq with rfl <;> first | exact n_p_G e))
  have F5 : Hid (Far (fun i => i = b) w w5) := Lib.hid (F4.out.trans hf (fun i hi e => by
    rcases e with e | ⟨q, hq, e⟩
    · exact e
    · simp only [List.mem_cons, List.not_mem_nil, or_false] at hq; rcases hq with rfl <;> (simp only at e; omega)))
  have OW5 : Hid (w5.ownsRow base 52 2 (.slice A x6.length c) x6.length (flatE x6)) := Lib.hid (own_far OW4.out hf (fun i hi e => by
    have ho := (OW4.out.lt i hi).1
    rcases e with e | ⟨q, hq, e⟩
    · omega
    · simp only [List.mem_cons, List.not_mem_nil, or_false] at hq; rcases hq with rfl <;> (simp only at e; omega)))
  clear OW4
  clear hf
  clear hr hF hpth B4_g B4_p B4_n B4_m R4 L4 F4
  have l5_g := B5_g.out.lt
  have l5_p := B5_p.out.lt
  have l5_n := B5_n.out.lt
  have l5_m := B5_m.out.lt
  have lb5 := R5.out.lt
  have FT5 := Lib.hid (fillNum_any (M := M) (r := s7) (w := w5.alloc (.cells #[.pointer (some ⟨m, 0, none⟩)] 100)) (bk := w5.heap.size) (o := 0) (c := 1) (ps := [⟨m, 0, none⟩]) (R5.out.below ((Below.refl _ _).alloc (Nat.le_refl _) _))
    (by intro q hq; simp only [List.mem_cons, List.not_mem_nil, or_false] at hq; rcases hq with rfl
        · exact ⟨⟨rfl, _, _, B5_m.out.alloc _, by simp⟩, Nat.le_trans HM.out k_m⟩)
    (by omega) (by intro q hq; simp only [List.mem_cons, List.not_mem_nil, or_false] at hq; rcases hq with rfl <;> simp only <;> omega) (by simp) (by simp)
    (by
      intro j q hq
      rw [Nat.zero_add, (Blk.new w5 _ _).cell]
      match j, hq with
      | 0, hq => cases hq; rfl
      | j + 1, hq => simp at hq))
  clear lb5 l5_g l5_p l5_n l5_m
  go_upto_region 9 with (go_at_call 69; refine FT5.out.mono ?_; rintro e w6 ⟨rfl, hr, hF⟩; skip)
  clear FT5
  have hpth : ∀ qq ∈ ([⟨m, 0, none⟩] : List Addr), qq.spot = none := by intro q hq; simp only [List.mem_cons, List.not_mem_nil, or_false] at hq; rcases hq with rfl <;> rfl
  simp only [fillR, ← h_x1, ← h_x2, ← h_x3, ← h_x4, ← h_x5, ← h_x6, ← h_x7, ← h_x8] at hr
  have B6_g : Hid (Blk w6 g 27 #[.int .i64 0, .int .i64 0, .int .i64 0, .int .i64 0, .string ⟨#[]⟩, .slice none 0 0, .string ⟨#[]⟩, .bool false]) := Lib.hid (by
    have hh := hF.blk hpth (X := g) n_g_b (B5_g.out.alloc _)
    simp only [fillC, if_true, if_neg n_m_g, if_neg n_m_p, if_neg n_m_n, ← h_x1, ← h_x2, ← h_x3, ← h_x4, ← h_x5, ← h_x6, ← h_x7, ← h_x8] at hh
    exact hh)
  have B6_p : Hid (Blk w6 p 27 #[.int .i64 x1, .int .i64 x2, .int .i64 x3, .int .i64 x4, .string x5, .slice A x6.length c, .string x7, .bool false]) := Lib.hid (by
    have hh := hF.blk hpth (X := p) n_p_b (B5_p.out.alloc _)
    simp only [fillC, if_true, if_neg n_m_g, if_neg n_m_p, if_neg n_m_n, ← h_x1, ← h_x2, ← h_x3, ← h_x4, ← h_x5, ← h_x6, ← h_x7, ← h_x8] at hh
    exact hh)
  have B6_n : Hid (Blk w6 n 3 #[.int .i64 x3]) := Lib.hid (by
    have hh := hF.blk hpth (X := n) n_n_b (B5_n.out.alloc _)
    simp only [fillC, if_true, if_neg n_m_g, if_neg n_m_p, if_neg n_m_n, ← h_x1, ← h_x2, ← h_x3, ← h_x4, ← h_x5, ← h_x6, ← h_x7, ← h_x8] at hh
    exact hh)
  have B6_m : Hid (Blk w6 m 3 #[.int .i64 x8]) := Lib.hid (by
    have hh := hF.blk hpth (X := m) n_m_b (B5_m.out.alloc _)
    simp only [fillC, if_true, if_neg n_m_g, if_neg n_m_p, if_neg n_m_n, ← h_x1, ← h_x2, ← h_x3, ← h_x4, ← h_x5, ← h_x6, ← h_x7, ← h_x8] at hh
    exact hh)
  have R6 : Hid (Rm M w6 b s8) := Lib.hid hr
  have hf := ((((Far.refl (fun i => i = b ∨ ∃ qq ∈ ([⟨m, 0, none⟩] : List Addr), qq.block = i) w5).alloc (.cells #[.pointer (some ⟨m, 0, none⟩)] 100))).trans hF.far (fun _ _ e => e))
  have L6 : Hid (Laid2 w6) := Lib.hid (L5.out.far hf (fun e => by
    rcases e with e | ⟨q, hq, e⟩
    · exact HG.out e
    · simp only [List.mem_cons, List.not_mem_nil, or_false] at hq; rcases hq with rfl <;> first | exact n_m_G e))
  have F6 : Hid (Far (fun i => i = b) w w6) := Lib.hid (F5.out.trans hf (fun i hi e => by
    rcases e with e | ⟨q, hq, e⟩
    · exact e
    · simp only [List.mem_cons, List.not_mem_nil, or_false] at hq; rcases hq with rfl <;> (simp only at e; omega)))
  have OW6 : Hid (w6.ownsRow base 52 2 (.slice A x6.length c) x6.length (flatE x6)) := Lib.hid (own_far OW5.out hf (fun i hi e => by
    have ho := (OW5.out.lt i hi).1
    rcases e with e | ⟨q, hq, e⟩
    · omega
    · simp only [List.mem_cons, List.not_mem_nil, or_false] at hq; rcases hq with rfl <;> (simp only at e; omega)))
  clear OW5
  clear hf
  clear hr hF hpth B5_g B5_p B5_n B5_m R5 L5 F5
  have c_m0 := B6_m.out.cell 0
  simp only [List.getElem?_toArray, List.getElem?_cons_succ, List.getElem?_cons_zero] at c_m0
  have c_p7 := B6_p.out.cell 7
  simp only [List.getElem?_toArray, List.getElem?_cons_succ, List.getElem?_cons_zero] at c_p7
  have f_p7 := B6_p.out.frozen 7
  go_upto_region 10 with (fail)
  obtain ⟨w7, hw7⟩ : ∃ z, z = w6.setCell ⟨p, 7, none⟩ (.bool go) := ⟨_, rfl⟩
  rw [← hw7]
  have B7_g : Hid (Blk w7 g 27 #[.int .i64 0, .int .i64 0, .int .i64 0, .int .i64 0, .string ⟨#[]⟩, .slice none 0 0, .string ⟨#[]⟩, .bool false]) := Lib.hid (by rw [hw7]; exact B6_g.out.other (p := ⟨p, 7, none⟩) n_g_p _)
  have B7_p : Hid (Blk w7 p 27 #[.int .i64 x1, .int .i64 x2, .int .i64 x3, .int .i64 x4, .string x5, .slice A x6.length c, .string x7, .bool go]) := Lib.hid (by rw [hw7]; exact B6_p.out.set 7 _)
  have B7_n : Hid (Blk w7 n 3 #[.int .i64 x3]) := Lib.hid (by rw [hw7]; exact B6_n.out.other (p := ⟨p, 7, none⟩) n_n_p _)
  have B7_m : Hid (Blk w7 m 3 #[.int .i64 x8]) := Lib.hid (by rw [hw7]; exact B6_m.out.other (p := ⟨p, 7, none⟩) n_m_p _)
  have hfs : Far (fun i => i = p) w6 w7 := by rw [hw7]; exact set_far _ _ _ _
  have R7 : Hid (Rm M w7 b s8) := Lib.hid (R6.out.far hfs (fun e => n_p_b e.symm) (fun i hi _ e => by have := HM.out; omega))
  have hf := hfs.mono (S' := fun i => i = b ∨ ∃ qq ∈ ([⟨p, 7, none⟩] : List Addr), qq.block = i) (fun i _ e => .inr ⟨_, List.mem_cons_self, e.symm⟩)
  have L7 : Hid (Laid2 w7) := Lib.hid (L6.out.far hf (fun e => by
    rcases e with e | ⟨q, hq, e⟩
    · exact HG.out e
    · simp only [List.mem_cons, List.not_mem_nil, or_false] at hq; rcases hq with rfl <;> first | exact n_p_G e))
  have F7 : Hid (Far (fun i => i = b) w w7) := Lib.hid (F6.out.trans hf (fun i hi e => by
    rcases e with e | ⟨q, hq, e⟩
    · exact e
    · simp only [List.mem_cons, List.not_mem_nil, or_false] at hq; rcases hq with rfl <;> (simp only at e; omega)))
  have OW7 : Hid (w7.ownsRow base 52 2 (.slice A x6.length c) x6.length (flatE x6)) := Lib.hid (own_far OW6.out hf (fun i hi e => by
    have ho := (OW6.out.lt i hi).1
    rcases e with e | ⟨q, hq, e⟩
    · omega
    · simp only [List.mem_cons, List.not_mem_nil, or_false] at hq; rcases hq with rfl <;> (simp only at e; omega)))
  clear OW6
  clear hf
  clear hw7 hfs B6_g B6_p B6_n B6_m R6 L6 F6 c_m0 c_p7 f_p7
  have c_p0 := B7_p.out.cell 0
  have c_p1 := B7_p.out.cell 1
  have c_p2 := B7_p.out.cell 2
  have c_p3 := B7_p.out.cell 3
  have c_p4 := B7_p.out.cell 4
  have c_p5 := B7_p.out.cell 5
  have c_p6 := B7_p.out.cell 6
  have c_p7 := B7_p.out.cell 7
  simp only [List.getElem?_toArray, List.getElem?_cons_succ, List.getElem?_cons_zero] at c_p0 c_p1 c_p2 c_p3 c_p4 c_p5 c_p6 c_p7
  have c_g0 := B7_g.out.cell 0
  have c_g1 := B7_g.out.cell 1
  have c_g2 := B7_g.out.cell 2
  have c_g3 := B7_g.out.cell 3
  have c_g4 := B7_g.out.cell 4
  have c_g5 := B7_g.out.cell 5
  have c_g6 := B7_g.out.cell 6
  have c_g7 := B7_g.out.cell 7
  simp only [List.getElem?_toArray, List.getElem?_cons_succ, List.getElem?_cons_zero] at c_g0 c_g1 c_g2 c_g3 c_g4 c_g5 c_g6 c_g7
  have f_g0 := B7_g.out.frozen 0
  have f_g1 := B7_g.out.frozen 1
  have f_g2 := B7_g.out.frozen 2
  have f_g3 := B7_g.out.frozen 3
  have f_g4 := B7_g.out.frozen 4
  have f_g5 := B7_g.out.frozen 5
  have f_g6 := B7_g.out.frozen 6
  have f_g7 := B7_g.out.frozen 7
  go_wp2_with fail
  have h5 : Blk ((((((((w7.setCell ⟨g, 0, none⟩ (.int .i64 x1)).setCell ⟨g, 1, none⟩ (.int .i64 x2)).setCell ⟨g, 2, none⟩ (.int .i64 x3)).setCell ⟨g, 3, none⟩ (.int .i64 x4)).setCell ⟨g, 4, none⟩ (.string x5)).setCell ⟨g, 5, none⟩ (.slice A x6.length c)).setCell ⟨g, 6, none⟩ (.string x7)).setCell ⟨g, 7, none⟩ (.bool go)) g 27 [(.int .i64 x1 : Value), (.int .i64 x2 : Value), (.int .i64 x3 : Value), (.int .i64 x4 : Value), (.string x5 : Value), (.slice A x6.length c : Value), (.string x7 : Value), (.bool go : Value)].toArray := ((((((((B7_g.out).set 0 _).set 1 _).set 2 _).set 3 _).set 4 _).set 5 _).set 6 _).set 7 _
  have f5 : Far (fun i => i = g) w7 ((((((((w7.setCell ⟨g, 0, none⟩ (.int .i64 x1)).setCell ⟨g, 1, none⟩ (.int .i64 x2)).setCell ⟨g, 2, none⟩ (.int .i64 x3)).setCell ⟨g, 3, none⟩ (.int .i64 x4)).setCell ⟨g, 4, none⟩ (.string x5)).setCell ⟨g, 5, none⟩ (.slice A x6.length c)).setCell ⟨g, 6, none⟩ (.string x7)).setCell ⟨g, 7, none⟩ (.bool go)) := (((((((set_far _ _ _ _).trans (set_far _ _ _ _) (fun _ _ e => e)).trans (set_far _ _ _ _) (fun _ _ e => e)).trans (set_far _ _ _ _) (fun _ _ e => e)).trans (set_far _ _ _ _) (fun _ _ e => e)).trans (set_far _ _ _ _) (fun _ _ e => e)).trans (set_far _ _ _ _) (fun _ _ e => e)).trans (set_far _ _ _ _) (fun _ _ e => e)
  refine bodyPost_ret (results_b1 rfl isAggR sizeR _ _ g rfl h5 rfl) rfl ?_
  have hM := HM.out
  have RZ := R7.out.far f5 (fun e => n_g_b e.symm) (fun i hi _ e => by omega)
  have FZ := F7.out.trans f5 (fun i hi e => by omega)
  exact ⟨_, rfl, row_mono (own_far OW7.out f5 (fun i hi e => by have := (OW7.out.lt i hi).1; omega)) (by omega), RZ, FZ⟩
end Go.Proofs.YtlbebdkockejcaaGreatDoor

/-
  The document's example of layer 16, in every world (written by makers/frmworks.py).
-/
import Derived.Test.YtlbebdkockejcaaGreatDoorFrmKind
import Derived.Test.YtlbebdkockejcaaGreatDoorFrmSame
import Derived.Laws.StructEq
import Derived.Deep.Cut
import Derived.Deep.CutBlock
namespace Go.Proofs.Frm
def a0 : Ask := ⟨0, 0, 1, -1, ⟨#[]⟩, ⟨#[]⟩, 0⟩
def r0 : Rep := ⟨3, 2, 0, 1, ⟨#[]⟩, [⟨⟨#[97]⟩, ⟨#[49]⟩⟩], ⟨#[]⟩, true⟩
def n0 : Ntc := ⟨3, 0, 4, ⟨#[]⟩, [⟨⟨#[97]⟩, ⟨#[]⟩, true⟩]⟩
def s0 : ByteArray := ⟨#[200, 128, 128, 128, 1, 128, 128, 128, 128]⟩
theorem a0_ok : validA a0 = true := by decide
theorem r0_ok : validR r0 = true := by decide
theorem n0_ok : validN n0 = true := by decide
theorem putA_a0 : putA a0 = s0 := by decide +kernel
theorem s0_list : s0.toList = [200, 128, 128, 128, 1, 128, 128, 128, 128] := by decide +kernel
theorem getA_s0 : getA s0 = some a0 := by rw [← putA_a0]; exact getA_put a0_ok
theorem kind_s0 : kindB s0 = 0 := by rw [← putA_a0]; exact kindA a0_ok
theorem kind_e : kindB ⟨#[]⟩ = -1 := kind_none rfl
theorem getA_r0 : getA (putR r0) = none := by
  rcases h : getA (putR r0) with _ | x
  · rfl
  · have h1 := (getA_some h).2.2.2; have h2 := (getR_some (getR_put r0_ok)).2.2.2; rw [h1] at h2; cases h2
theorem size_r0 : (putR r0).size ≤ 999999 := by
  have h1 := listB_size_le (itemsR r0)
  have h2 := itemsR_dat (factsR r0_ok)
  show (Nod.listB (itemsR r0)).size ≤ _
  omega
theorem size_n0 : (putN n0).size ≤ 999999 := by
  have h1 := listB_size_le (itemsN n0)
  have h2 := itemsN_dat (factsN n0_ok)
  show (Nod.listB (itemsN n0)).size ≤ _
  omega
end Go.Proofs.Frm
namespace Go.Proofs.YtlbebdkockejcaaGreatDoor
open Go.RowKit Go.Proofs.Frm Go.Proofs.Mdl
set_option linter.unusedVariables false
set_option linter.unusedSimpArgs false
theorem conv_row (W : World) : (convert 55 9 (.slice (some ⟨W.heap.size, 0, none⟩) 9 9)).run Tryz.prog (W.alloc (.cells #[.int .u8 200, .int .u8 128, .int .u8 128, .int .u8 128, .int .u8 1, .int .u8 128, .int .u8 128, .int .u8 128, .int .u8 128] 5)) = .ok (.string ⟨#[200, 128, 128, 128, 1, 128, 128, 128, 128]⟩) (W.alloc (.cells #[.int .u8 200, .int .u8 128, .int .u8 128, .int .u8 128, .int .u8 1, .int .u8 128, .int .u8 128, .int .u8 128, .int .u8 128] 5)) := by
  have h : (W.alloc (.cells #[.int .u8 200, .int .u8 128, .int .u8 128, .int .u8 128, .int .u8 1, .int .u8 128, .int .u8 128, .int .u8 128, .int .u8 128] 5)).ownsRow W.heap.size 5 1 (.slice (some ⟨W.heap.size, 0, none⟩) 9 9) 9 (cellsOf [200, 128, 128, 128, 1, 128, 128, 128, 128]) :=
    ⟨rfl, .inr ⟨W.heap.size, 9, #[.int .u8 200, .int .u8 128, .int .u8 128, .int .u8 128, .int .u8 1, .int .u8 128, .int .u8 128, .int .u8 128, .int .u8 128], rfl, Nat.le_refl _, Blk.new W _ _, by decide, by decide, rfl, rfl⟩⟩
  exact conv_own h
set_option maxRecDepth 100000 in
set_option maxHeartbeats 20000000 in
theorem fworks_any (w : World) (hl : Laid2 w) :
    Calls Tryz.prog 5 #[] w fun e w' => e = .returned (.bool true) ∧ Below w.heap.size w w' := by
  obtain ⟨T, hT⟩ : ∃ t, t = putR r0 := ⟨_, rfl⟩
  obtain ⟨U, hU⟩ : ∃ t, t = putN n0 := ⟨_, rfl⟩
  have h1 := getR_put r0_ok
  have h2 := getN_put n0_ok
  have h3 := getA_r0
  have h4 := size_r0
  have h5 := size_n0
  have h6 := kindR r0_ok
  have h7 := kindN n0_ok
  rw [← hT] at h1 h3 h4 h6
  rw [← hU] at h2 h5 h7
  have LD := Lib.hid (fun W (hW : Below w.heap.size w W) => hl.on hW (Nat.le_refl _))
  have PA := Lib.hid (fun W (hW : Below w.heap.size w W) => putAsk_any a0 W)
  rw [a0_ok, putA_a0] at PA
  simp only [if_true] at PA
  have GA := Lib.hid (fun W (hW : Below w.heap.size w W) => getA_ok (w := W) (by decide) (LD.out W hW) getA_s0)
  have PR := Lib.hid (fun v W (h : Es W v r0.entries) => putReply_any (r := r0) h)
  rw [r0_ok, ← hT] at PR
  simp only [if_true] at PR
  have GR := Lib.hid (fun W (hW : Below w.heap.size w W) => getR_ok (w := W) h4 (LD.out W hW) h1)
  have PN := Lib.hid (fun v W (h : Cs W v n0.changes) => putNotice_any (r := n0) h)
  rw [n0_ok, ← hU] at PN
  simp only [if_true] at PN
  have GN := Lib.hid (fun W (hW : Below w.heap.size w W) => getN_ok (w := W) h5 (LD.out W hW) h2)
  have GB := Lib.hid (fun W (hW : Below w.heap.size w W) => getA_no (w := W) h4 (LD.out W hW) h3)
  have K0 := Lib.hid (fun W (hW : Below w.heap.size w W) => kind_any s0 W (by decide) (LD.out W hW))
  have K1 := Lib.hid (fun W (hW : Below w.heap.size w W) => kind_any T W h4 (LD.out W hW))
  have K2 := Lib.hid (fun W (hW : Below w.heap.size w W) => kind_any U W h5 (LD.out W hW))
  have K3 := Lib.hid (fun W (hW : Below w.heap.size w W) => kind_any ⟨#[]⟩ W (by decide) (LD.out W hW))
  rw [kind_s0] at K0
  rw [h6] at K1
  rw [h7] at K2
  rw [kind_e] at K3
  have VA := Lib.hid (fun W => validAsk_any a0 W)
  rw [a0_ok] at VA
  have VR := Lib.hid (fun v W (h : Es W v r0.entries) => validReply_any (r := r0) h)
  rw [r0_ok] at VR
  have VN := Lib.hid (fun v W (h : Cs W v n0.changes) => validNotice_any (r := n0) h)
  rw [n0_ok] at VN
  have SR := Lib.hid (fun va vb W (h1 : Es W va r0.entries) (h2 : Es W vb r0.entries) => sameR_any (a := r0) (b := r0) h1 h2 (by decide))
  rw [decide_eq_true (rfl : r0 = r0)] at SR
  have SN := Lib.hid (fun va vb W (h1 : Cs W va n0.changes) (h2 : Cs W vb n0.changes) => sameN_any (a := n0) (b := n0) h1 h2 (by decide))
  rw [decide_eq_true (rfl : n0 = n0)] at SN
  simp only [cellA, zeroA, a0] at PA GA GB VA
  simp only [cellR, r0] at PR GR VR SR
  simp only [cellN, n0] at PN GN VN SN
  have hS0 := s0_list
  clear hl hT hU h1 h2 h3 h4 h5 h6 h7
  go_enter Tryz.func5, Tryz.ntmps5
  go_upto_region 2 with (fail)
  obtain ⟨v1, b1, hw, h_b1, hb, k_b1, hz⟩ := box_new w 23 #[.int .i64 0, .int .i64 0, .int .i64 1, .int .i64 (-1), .string ⟨#[]⟩, .string ⟨#[]⟩, .int .i64 0]
  rw [← hw, ← h_b1]
  have B1 := Lib.hid ((Below.refl w.heap.size w).trans (hb.mono (Below.refl w.heap.size w).size))
  have F_b1 := Lib.hid k_b1
  clear hw hb hz h_b1 k_b1
  have c_b10 := F_b1.out.cell 0
  have c_b11 := F_b1.out.cell 1
  have c_b12 := F_b1.out.cell 2
  have c_b13 := F_b1.out.cell 3
  have c_b14 := F_b1.out.cell 4
  have c_b15 := F_b1.out.cell 5
  have c_b16 := F_b1.out.cell 6
  simp only [List.getElem?_toArray, List.getElem?_cons_succ, List.getElem?_cons_zero] at c_b10 c_b11 c_b12 c_b13 c_b14 c_b15 c_b16
  go_upto_region 3 with (go_at_call 7; refine (PA.out _ B1.out).mono ?_; rintro e v2 ⟨rfl, hb⟩; have B2 := Lib.hid (B1.out.trans (hb.mono B1.out.size)); replace F_b1 := Lib.hid (F_b1.out.below hb); clear hb)
  clear c_b10 c_b11 c_b12 c_b13 c_b14 c_b15 c_b16
  go_upto_region 4 with (go_at_call 19; refine (GA.out _ B2.out).mono ?_; rintro e v3 ⟨rfl, hb⟩; have B3 := Lib.hid (B2.out.trans (hb.mono B2.out.size)); replace F_b1 := Lib.hid (F_b1.out.below hb); clear hb)
  obtain ⟨v4, b4, hw, h_b4, hb, k_b4, hz⟩ := box_new v3 23 #[.int .i64 0, .int .i64 0, .int .i64 1, .int .i64 (-1), .string ⟨#[]⟩, .string ⟨#[]⟩, .int .i64 0]
  rw [← hw, ← h_b4]
  have B4 := Lib.hid (B3.out.trans (hb.mono B3.out.size))
  replace F_b1 := Lib.hid (F_b1.out.below hb)
  have F_b4 := Lib.hid k_b4
  clear hw hb hz h_b4 k_b4
  obtain ⟨en0, hen0⟩ : ∃ n, n = v4.heap.size := ⟨_, rfl⟩
  go_upto_region 5 with (fail)
  rw [← hen0]
  obtain ⟨v5, r_, b6, hw, h_r, h_b6, hb, k_r, k_b6, hz⟩ := boxes2 v4 52 27 #[.string ⟨#[97]⟩, .string ⟨#[49]⟩] #[.int .i64 3, .int .i64 2, .int .i64 0, .int .i64 1, .string ⟨#[]⟩, .slice (some ⟨en0, 0, none⟩) 1 1, .string ⟨#[]⟩, .bool true]
  rw [← hen0] at h_r h_b6
  rw [← hw]
  rw [show en0 + 1 = b6 from h_b6.symm]
  rw [h_r] at k_r
  clear h_r
  have B5 := Lib.hid (B4.out.trans (hb.mono B4.out.size))
  replace F_b1 := Lib.hid (F_b1.out.below hb)
  replace F_b4 := Lib.hid (F_b4.out.below hb)
  have F_b6 := Lib.hid k_b6
  have S_b6 : Hid (Es v5 (.slice (some ⟨en0, 0, none⟩) 1 1) r0.entries) := Lib.hid ⟨_, _, rfl, Nat.le_refl _, .inr ⟨en0, 0, rfl, k_r.lt, fun j x hj => by rw [Nat.zero_add, k_r.cell, List.getElem?_toArray]; exact hj⟩⟩
  clear hw hb hz k_r k_b6 h_b6 hen0
  have c_b60 := F_b6.out.cell 0
  have c_b61 := F_b6.out.cell 1
  have c_b62 := F_b6.out.cell 2
  have c_b63 := F_b6.out.cell 3
  have c_b64 := F_b6.out.cell 4
  have c_b65 := F_b6.out.cell 5
  have c_b66 := F_b6.out.cell 6
  have c_b67 := F_b6.out.cell 7
  simp only [List.getElem?_toArray, List.getElem?_cons_succ, List.getElem?_cons_zero] at c_b60 c_b61 c_b62 c_b63 c_b64 c_b65 c_b66 c_b67
  go_upto_region 6 with (go_at_call 9; refine (PR.out _ _ S_b6.out).mono ?_; rintro e v6 ⟨rfl, hb⟩; have B6 := Lib.hid (B5.out.trans (hb.mono B5.out.size)); replace F_b1 := Lib.hid (F_b1.out.below hb); replace F_b4 := Lib.hid (F_b4.out.below hb); replace F_b6 := Lib.hid (F_b6.out.below hb); replace S_b6 := Lib.hid (S_b6.out.below hb); clear hb)
  clear c_b60 c_b61 c_b62 c_b63 c_b64 c_b65 c_b66 c_b67
  go_upto_region 7 with (go_at_call 21; refine (GR.out _ B6.out).mono ?_; rintro e v7 ⟨vl, rfl, hown, hb⟩; obtain ⟨A1, c1, rfl⟩ := own_shape hown; have S_b9 := Lib.hid (Es.of_own (l := r0.entries) hown); clear hown; have B7 := Lib.hid (B6.out.trans (hb.mono B6.out.size)); replace F_b1 := Lib.hid (F_b1.out.below hb); replace F_b4 := Lib.hid (F_b4.out.below hb); replace F_b6 := Lib.hid (F_b6.out.below hb); replace S_b6 := Lib.hid (S_b6.out.below hb); clear hb)
  obtain ⟨v8, b9, hw, h_b9, hb, k_b9, hz⟩ := box_new v7 27 #[.int .i64 3, .int .i64 2, .int .i64 0, .int .i64 1, .string ⟨#[]⟩, .slice A1 1 c1, .string ⟨#[]⟩, .bool true]
  rw [← hw, ← h_b9]
  have B8 := Lib.hid (B7.out.trans (hb.mono B7.out.size))
  replace F_b1 := Lib.hid (F_b1.out.below hb)
  replace F_b4 := Lib.hid (F_b4.out.below hb)
  replace F_b6 := Lib.hid (F_b6.out.below hb)
  replace S_b6 := Lib.hid (S_b6.out.below hb)
  replace S_b9 := Lib.hid (S_b9.out.below hb)
  have F_b9 := Lib.hid k_b9
  clear hw hb hz h_b9 k_b9
  obtain ⟨en1, hen1⟩ : ∃ n, n = v8.heap.size := ⟨_, rfl⟩
  go_upto_region 8 with (fail)
  rw [← hen1]
  obtain ⟨v9, r_, b11, hw, h_r, h_b11, hb, k_r, k_b11, hz⟩ := boxes2 v8 54 30 #[.string ⟨#[97]⟩, .string ⟨#[]⟩, .bool true] #[.int .i64 3, .int .i64 0, .int .i64 4, .string ⟨#[]⟩, .slice (some ⟨en1, 0, none⟩) 1 1]
  rw [← hen1] at h_r h_b11
  rw [← hw]
  rw [show en1 + 1 = b11 from h_b11.symm]
  rw [h_r] at k_r
  clear h_r
  have B9 := Lib.hid (B8.out.trans (hb.mono B8.out.size))
  replace F_b1 := Lib.hid (F_b1.out.below hb)
  replace F_b4 := Lib.hid (F_b4.out.below hb)
  replace F_b6 := Lib.hid (F_b6.out.below hb)
  replace F_b9 := Lib.hid (F_b9.out.below hb)
  replace S_b6 := Lib.hid (S_b6.out.below hb)
  replace S_b9 := Lib.hid (S_b9.out.below hb)
  have F_b11 := Lib.hid k_b11
  have S_b11 : Hid (Cs v9 (.slice (some ⟨en1, 0, none⟩) 1 1) n0.changes) := Lib.hid ⟨_, _, rfl, Nat.le_refl _, .inr ⟨en1, 0, rfl, k_r.lt, fun j x hj => by rw [Nat.zero_add, k_r.cell, List.getElem?_toArray]; exact hj⟩⟩
  clear hw hb hz k_r k_b11 h_b11 hen1
  have c_b110 := F_b11.out.cell 0
  have c_b111 := F_b11.out.cell 1
  have c_b112 := F_b11.out.cell 2
  have c_b113 := F_b11.out.cell 3
  have c_b114 := F_b11.out.cell 4
  simp only [List.getElem?_toArray, List.getElem?_cons_succ, List.getElem?_cons_zero] at c_b110 c_b111 c_b112 c_b113 c_b114
  go_upto_region 9 with (go_at_call 11; refine (PN.out _ _ S_b11.out).mono ?_; rintro e v10 ⟨rfl, hb⟩; have B10 := Lib.hid (B9.out.trans (hb.mono B9.out.size)); replace F_b1 := Lib.hid (F_b1.out.below hb); replace F_b4 := Lib.hid (F_b4.out.below hb); replace F_b6 := Lib.hid (F_b6.out.below hb); replace F_b9 := Lib.hid (F_b9.out.below hb); replace F_b11 := Lib.hid (F_b11.out.below hb); replace S_b6 := Lib.hid (S_b6.out.below hb); replace S_b9 := Lib.hid (S_b9.out.below hb); replace S_b11 := Lib.hid (S_b11.out.below hb); clear hb)
  clear c_b110 c_b111 c_b112 c_b113 c_b114
  go_upto_region 10 with (go_at_call 23; refine (GN.out _ B10.out).mono ?_; rintro e v11 ⟨vl, rfl, hown, hb⟩; obtain ⟨A2, c2, rfl⟩ := own_shape hown; have S_b14 := Lib.hid (Cs.of_own (l := n0.changes) hown); clear hown; have B11 := Lib.hid (B10.out.trans (hb.mono B10.out.size)); replace F_b1 := Lib.hid (F_b1.out.below hb); replace F_b4 := Lib.hid (F_b4.out.below hb); replace F_b6 := Lib.hid (F_b6.out.below hb); replace F_b9 := Lib.hid (F_b9.out.below hb); replace F_b11 := Lib.hid (F_b11.out.below hb); replace S_b6 := Lib.hid (S_b6.out.below hb); replace S_b9 := Lib.hid (S_b9.out.below hb); replace S_b11 := Lib.hid (S_b11.out.below hb); clear hb)
  obtain ⟨v12, b14, hw, h_b14, hb, k_b14, hz⟩ := box_new v11 30 #[.int .i64 3, .int .i64 0, .int .i64 4, .string ⟨#[]⟩, .slice A2 1 c2]
  rw [← hw, ← h_b14]
  have B12 := Lib.hid (B11.out.trans (hb.mono B11.out.size))
  replace F_b1 := Lib.hid (F_b1.out.below hb)
  replace F_b4 := Lib.hid (F_b4.out.below hb)
  replace F_b6 := Lib.hid (F_b6.out.below hb)
  replace F_b9 := Lib.hid (F_b9.out.below hb)
  replace F_b11 := Lib.hid (F_b11.out.below hb)
  replace S_b6 := Lib.hid (S_b6.out.below hb)
  replace S_b9 := Lib.hid (S_b9.out.below hb)
  replace S_b11 := Lib.hid (S_b11.out.below hb)
  replace S_b14 := Lib.hid (S_b14.out.below hb)
  have F_b14 := Lib.hid k_b14
  clear hw hb hz h_b14 k_b14
  go_upto_region 11 with (go_at_call 19; refine (GB.out _ B12.out).mono ?_; rintro e v13 ⟨rfl, hb⟩; have B13 := Lib.hid (B12.out.trans (hb.mono B12.out.size)); replace F_b1 := Lib.hid (F_b1.out.below hb); replace F_b4 := Lib.hid (F_b4.out.below hb); replace F_b6 := Lib.hid (F_b6.out.below hb); replace F_b9 := Lib.hid (F_b9.out.below hb); replace F_b11 := Lib.hid (F_b11.out.below hb); replace F_b14 := Lib.hid (F_b14.out.below hb); replace S_b6 := Lib.hid (S_b6.out.below hb); replace S_b9 := Lib.hid (S_b9.out.below hb); replace S_b11 := Lib.hid (S_b11.out.below hb); replace S_b14 := Lib.hid (S_b14.out.below hb); clear hb)
  obtain ⟨v14, b16, hw, h_b16, hb, k_b16, hz⟩ := box_new v13 23 #[.int .i64 0, .int .i64 0, .int .i64 0, .int .i64 0, .string ⟨#[]⟩, .string ⟨#[]⟩, .int .i64 0]
  rw [← hw, ← h_b16]
  have B14 := Lib.hid (B13.out.trans (hb.mono B13.out.size))
  replace F_b1 := Lib.hid (F_b1.out.below hb)
  replace F_b4 := Lib.hid (F_b4.out.below hb)
  replace F_b6 := Lib.hid (F_b6.out.below hb)
  replace F_b9 := Lib.hid (F_b9.out.below hb)
  replace F_b11 := Lib.hid (F_b11.out.below hb)
  replace F_b14 := Lib.hid (F_b14.out.below hb)
  replace S_b6 := Lib.hid (S_b6.out.below hb)
  replace S_b9 := Lib.hid (S_b9.out.below hb)
  replace S_b11 := Lib.hid (S_b11.out.below hb)
  replace S_b14 := Lib.hid (S_b14.out.below hb)
  have F_b16 := Lib.hid k_b16
  clear hw hb hz h_b16 k_b16
  have c_b60 := F_b6.out.cell 0
  have c_b61 := F_b6.out.cell 1
  have c_b62 := F_b6.out.cell 2
  have c_b63 := F_b6.out.cell 3
  have c_b64 := F_b6.out.cell 4
  have c_b65 := F_b6.out.cell 5
  have c_b66 := F_b6.out.cell 6
  have c_b67 := F_b6.out.cell 7
  have c_b90 := F_b9.out.cell 0
  have c_b91 := F_b9.out.cell 1
  have c_b92 := F_b9.out.cell 2
  have c_b93 := F_b9.out.cell 3
  have c_b94 := F_b9.out.cell 4
  have c_b95 := F_b9.out.cell 5
  have c_b96 := F_b9.out.cell 6
  have c_b97 := F_b9.out.cell 7
  simp only [List.getElem?_toArray, List.getElem?_cons_succ, List.getElem?_cons_zero] at c_b60 c_b61 c_b62 c_b63 c_b64 c_b65 c_b66 c_b67 c_b90 c_b91 c_b92 c_b93 c_b94 c_b95 c_b96 c_b97
  go_wp2_with (first
    | (go_at_call 25; refine (SR.out _ _ _ S_b9.out S_b6.out).mono ?_; rintro e v15 ⟨rfl, hb⟩; have B15 := Lib.hid (B14.out.trans (hb.mono B14.out.size)); replace F_b1 := Lib.hid (F_b1.out.below hb); replace F_b4 := Lib.hid (F_b4.out.below hb); replace F_b6 := Lib.hid (F_b6.out.below hb); replace F_b9 := Lib.hid (F_b9.out.below hb); replace F_b11 := Lib.hid (F_b11.out.below hb); replace F_b14 := Lib.hid (F_b14.out.below hb); replace S_b6 := Lib.hid (S_b6.out.below hb); replace S_b9 := Lib.hid (S_b9.out.below hb); replace S_b11 := Lib.hid (S_b11.out.below hb); replace S_b14 := Lib.hid (S_b14.out.below hb); have c_b110 := F_b11.out.cell 0; have c_b111 := F_b11.out.cell 1; have c_b112 := F_b11.out.cell 2; have c_b113 := F_b11.out.cell 3; have c_b114 := F_b11.out.cell 4; have c_b140 := F_b14.out.cell 0; have c_b141 := F_b14.out.cell 1; have c_b142 := F_b14.out.cell 2; have c_b143 := F_b14.out.cell 3; have c_b144 := F_b14.out.cell 4; simp only [List.getElem?_toArray, List.getElem?_cons_succ, List.getElem?_cons_zero] at c_b110 c_b111 c_b112 c_b113 c_b114 c_b140 c_b141 c_b142 c_b143 c_b144; clear hb c_b60 c_b61 c_b62 c_b63 c_b64 c_b65 c_b66 c_b67 c_b90 c_b91 c_b92 c_b93 c_b94 c_b95 c_b96 c_b97 SR PA GA PR GR PN GN GB LD)
    | (go_at_call 26; refine (SN.out _ _ _ S_b14.out S_b11.out).mono ?_; rintro e v16 ⟨rfl, hb⟩; have B16 := Lib.hid (B15.out.trans (hb.mono B15.out.size)); replace F_b1 := Lib.hid (F_b1.out.below hb); replace F_b4 := Lib.hid (F_b4.out.below hb); replace F_b6 := Lib.hid (F_b6.out.below hb); replace F_b9 := Lib.hid (F_b9.out.below hb); replace F_b11 := Lib.hid (F_b11.out.below hb); replace F_b14 := Lib.hid (F_b14.out.below hb); replace S_b6 := Lib.hid (S_b6.out.below hb); replace S_b9 := Lib.hid (S_b9.out.below hb); replace S_b11 := Lib.hid (S_b11.out.below hb); replace S_b14 := Lib.hid (S_b14.out.below hb); clear hb c_b110 c_b111 c_b112 c_b113 c_b114 c_b140 c_b141 c_b142 c_b143 c_b144 SN; have bz : Below v16.heap.size v16 (v16.alloc (.cells #[.int .u8 200, .int .u8 128, .int .u8 128, .int .u8 128, .int .u8 1, .int .u8 128, .int .u8 128, .int .u8 128, .int .u8 128] 5)) := (Below.refl _ _).alloc (Nat.le_refl _) _; replace F_b1 := Lib.hid (F_b1.out.below bz); replace F_b4 := Lib.hid (F_b4.out.below bz); replace F_b6 := Lib.hid (F_b6.out.below bz); replace F_b9 := Lib.hid (F_b9.out.below bz); replace F_b11 := Lib.hid (F_b11.out.below bz); replace F_b14 := Lib.hid (F_b14.out.below bz); replace S_b6 := Lib.hid (S_b6.out.below bz); replace S_b9 := Lib.hid (S_b9.out.below bz); replace S_b11 := Lib.hid (S_b11.out.below bz); replace S_b14 := Lib.hid (S_b14.out.below bz); have B17 := Lib.hid (B16.out.trans (bz.mono B16.out.size)); have c_b10 := F_b1.out.cell 0; have c_b11 := F_b1.out.cell 1; have c_b12 := F_b1.out.cell 2; have c_b13 := F_b1.out.cell 3; have c_b14 := F_b1.out.cell 4; have c_b15 := F_b1.out.cell 5; have c_b16 := F_b1.out.cell 6; have c_b40 := F_b4.out.cell 0; have c_b41 := F_b4.out.cell 1; have c_b42 := F_b4.out.cell 2; have c_b43 := F_b4.out.cell 3; have c_b44 := F_b4.out.cell 4; have c_b45 := F_b4.out.cell 5; have c_b46 := F_b4.out.cell 6; simp only [List.getElem?_toArray, List.getElem?_cons_succ, List.getElem?_cons_zero] at c_b10 c_b11 c_b12 c_b13 c_b14 c_b15 c_b16 c_b40 c_b41 c_b42 c_b43 c_b44 c_b45 c_b46; have CV := conv_row v16; clear bz)
    | (go_at_call 27; refine (K0.out _ B17.out).mono ?_; rintro e v18 ⟨rfl, hb⟩; have B18 := Lib.hid (B17.out.trans (hb.mono B17.out.size)); replace F_b1 := Lib.hid (F_b1.out.below hb); replace F_b4 := Lib.hid (F_b4.out.below hb); replace F_b6 := Lib.hid (F_b6.out.below hb); replace F_b9 := Lib.hid (F_b9.out.below hb); replace F_b11 := Lib.hid (F_b11.out.below hb); replace F_b14 := Lib.hid (F_b14.out.below hb); replace S_b6 := Lib.hid (S_b6.out.below hb); replace S_b9 := Lib.hid (S_b9.out.below hb); replace S_b11 := Lib.hid (S_b11.out.below hb); replace S_b14 := Lib.hid (S_b14.out.below hb); clear hb c_b10 c_b11 c_b12 c_b13 c_b14 c_b15 c_b16 c_b40 c_b41 c_b42 c_b43 c_b44 c_b45 c_b46 K0 CV)
    | (go_at_call 27; refine (K1.out _ B18.out).mono ?_; rintro e v19 ⟨rfl, hb⟩; have B19 := Lib.hid (B18.out.trans (hb.mono B18.out.size)); replace F_b1 := Lib.hid (F_b1.out.below hb); replace F_b4 := Lib.hid (F_b4.out.below hb); replace F_b6 := Lib.hid (F_b6.out.below hb); replace F_b9 := Lib.hid (F_b9.out.below hb); replace F_b11 := Lib.hid (F_b11.out.below hb); replace F_b14 := Lib.hid (F_b14.out.below hb); replace S_b6 := Lib.hid (S_b6.out.below hb); replace S_b9 := Lib.hid (S_b9.out.below hb); replace S_b11 := Lib.hid (S_b11.out.below hb); replace S_b14 := Lib.hid (S_b14.out.below hb); clear hb K1)
    | (go_at_call 27; refine (K2.out _ B19.out).mono ?_; rintro e v20 ⟨rfl, hb⟩; have B20 := Lib.hid (B19.out.trans (hb.mono B19.out.size)); replace F_b1 := Lib.hid (F_b1.out.below hb); replace F_b4 := Lib.hid (F_b4.out.below hb); replace F_b6 := Lib.hid (F_b6.out.below hb); replace F_b9 := Lib.hid (F_b9.out.below hb); replace F_b11 := Lib.hid (F_b11.out.below hb); replace F_b14 := Lib.hid (F_b14.out.below hb); replace S_b6 := Lib.hid (S_b6.out.below hb); replace S_b9 := Lib.hid (S_b9.out.below hb); replace S_b11 := Lib.hid (S_b11.out.below hb); replace S_b14 := Lib.hid (S_b14.out.below hb); clear hb K2)
    | (go_at_call 27; refine (K3.out _ B20.out).mono ?_; rintro e v21 ⟨rfl, hb⟩; have B21 := Lib.hid (B20.out.trans (hb.mono B20.out.size)); replace F_b1 := Lib.hid (F_b1.out.below hb); replace F_b4 := Lib.hid (F_b4.out.below hb); replace F_b6 := Lib.hid (F_b6.out.below hb); replace F_b9 := Lib.hid (F_b9.out.below hb); replace F_b11 := Lib.hid (F_b11.out.below hb); replace F_b14 := Lib.hid (F_b14.out.below hb); replace S_b6 := Lib.hid (S_b6.out.below hb); replace S_b9 := Lib.hid (S_b9.out.below hb); replace S_b11 := Lib.hid (S_b11.out.below hb); replace S_b14 := Lib.hid (S_b14.out.below hb); have c_b10 := F_b1.out.cell 0; have c_b11 := F_b1.out.cell 1; have c_b12 := F_b1.out.cell 2; have c_b13 := F_b1.out.cell 3; have c_b14 := F_b1.out.cell 4; have c_b15 := F_b1.out.cell 5; have c_b16 := F_b1.out.cell 6; simp only [List.getElem?_toArray, List.getElem?_cons_succ, List.getElem?_cons_zero] at c_b10 c_b11 c_b12 c_b13 c_b14 c_b15 c_b16; clear hb K3)
    | (go_at_call 16; refine (VA.out _).mono ?_; rintro e v22 ⟨rfl, hb⟩; have B22 := Lib.hid (B21.out.trans (hb.mono B21.out.size)); replace F_b1 := Lib.hid (F_b1.out.below hb); replace F_b4 := Lib.hid (F_b4.out.below hb); replace F_b6 := Lib.hid (F_b6.out.below hb); replace F_b9 := Lib.hid (F_b9.out.below hb); replace F_b11 := Lib.hid (F_b11.out.below hb); replace F_b14 := Lib.hid (F_b14.out.below hb); replace S_b6 := Lib.hid (S_b6.out.below hb); replace S_b9 := Lib.hid (S_b9.out.below hb); replace S_b11 := Lib.hid (S_b11.out.below hb); replace S_b14 := Lib.hid (S_b14.out.below hb); have c_b60 := F_b6.out.cell 0; have c_b61 := F_b6.out.cell 1; have c_b62 := F_b6.out.cell 2; have c_b63 := F_b6.out.cell 3; have c_b64 := F_b6.out.cell 4; have c_b65 := F_b6.out.cell 5; have c_b66 := F_b6.out.cell 6; have c_b67 := F_b6.out.cell 7; simp only [List.getElem?_toArray, List.getElem?_cons_succ, List.getElem?_cons_zero] at c_b60 c_b61 c_b62 c_b63 c_b64 c_b65 c_b66 c_b67; clear hb)
    | (go_at_call 17; refine (VR.out _ _ S_b6.out).mono ?_; rintro e v23 ⟨rfl, hb⟩; have B23 := Lib.hid (B22.out.trans (hb.mono B22.out.size)); replace F_b1 := Lib.hid (F_b1.out.below hb); replace F_b4 := Lib.hid (F_b4.out.below hb); replace F_b6 := Lib.hid (F_b6.out.below hb); replace F_b9 := Lib.hid (F_b9.out.below hb); replace F_b11 := Lib.hid (F_b11.out.below hb); replace F_b14 := Lib.hid (F_b14.out.below hb); replace S_b6 := Lib.hid (S_b6.out.below hb); replace S_b9 := Lib.hid (S_b9.out.below hb); replace S_b11 := Lib.hid (S_b11.out.below hb); replace S_b14 := Lib.hid (S_b14.out.below hb); have c_b110 := F_b11.out.cell 0; have c_b111 := F_b11.out.cell 1; have c_b112 := F_b11.out.cell 2; have c_b113 := F_b11.out.cell 3; have c_b114 := F_b11.out.cell 4; simp only [List.getElem?_toArray, List.getElem?_cons_succ, List.getElem?_cons_zero] at c_b110 c_b111 c_b112 c_b113 c_b114; clear hb)
    | (go_at_call 18; refine (VN.out _ _ S_b11.out).mono ?_; rintro e v24 ⟨rfl, hb⟩; have B24 := Lib.hid (B23.out.trans (hb.mono B23.out.size)); replace F_b1 := Lib.hid (F_b1.out.below hb); replace F_b4 := Lib.hid (F_b4.out.below hb); replace F_b6 := Lib.hid (F_b6.out.below hb); replace F_b9 := Lib.hid (F_b9.out.below hb); replace F_b11 := Lib.hid (F_b11.out.below hb); replace F_b14 := Lib.hid (F_b14.out.below hb); replace S_b6 := Lib.hid (S_b6.out.below hb); replace S_b9 := Lib.hid (S_b9.out.below hb); replace S_b11 := Lib.hid (S_b11.out.below hb); replace S_b14 := Lib.hid (S_b14.out.below hb); clear hb))
  go_ret
  exact ⟨rfl, B24.out⟩
end Go.Proofs.YtlbebdkockejcaaGreatDoor

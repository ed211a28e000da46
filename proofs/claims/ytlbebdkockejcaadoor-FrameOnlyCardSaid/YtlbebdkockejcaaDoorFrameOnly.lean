/-
  PROVED HERE: any bytes are the frame of what they tell, and of one kind at most (of more than 2000 bytes the law asks nothing). What errors.errorType holds is as the program lays it (tied).
-/
import Derived.Test.YtlbebdkockejcaaDoorFrmWorks
import Derived.Test.YtlbebdkockejcaaDoorFrmArgs
import Derived.Test.YtlbebdkockejcaaDoorFrmLaid
import Derived.Test.YtlbebdkockejcaaDoorCards
import Derived.Test.YtlbebdkockejcaaDoorTie
import Derived.WalkKit
import Derived.ProofKit
import Derived.LaidMore
import Derived.OpenShut
import Derived.ShutString
import Derived.ChangeOld
import Derived.Below
import Derived.Stop.Joined
import Derived.SevenTiedAt
namespace Go.Proofs.YtlbebdkockejcaaDoor.frameOnly
open Go.ChangeShapes Go.WideShapes Go.ChangeAt Go.RowKit Go.Proofs.Mdl
open Go.ChangeMaps (open_string shut_string)
set_option linter.unusedVariables false
set_option linter.unusedSimpArgs false
set_option maxRecDepth 100000 in
set_option maxHeartbeats 32000000 in
theorem walk (w : World) (hl : LaidN w) (a0 : ByteArray) (w0 : a0.size ≤ maxLen) :
    Calls Tryd.prog 4 #[.string a0] w fun e w' => e = .returned (.bool true) ∧ Below w.heap.size w w' := by
  have WK := Lib.hid (fworks_any w hl)
  by_cases hsz : a0.size ≤ 2000
  · rcases hA : Frm.getA a0 with _ | x
    · rcases hR : Frm.getR a0 with _ | x
      · rcases hN : Frm.getN a0 with _ | x
        · have hkind : Frm.kindB a0 = -1 := by rw [Frm.kindB, hA, hR, hN]; rfl
          have GA := Lib.hid (fun W (hW : Below w.heap.size w W) => getA_no (w := W) (s := a0) (by omega) (hl.on hW (Nat.le_refl _)) hA)
          have GR := Lib.hid (fun W (hW : Below w.heap.size w W) => getR_no (w := W) (s := a0) (by omega) (hl.on hW (Nat.le_refl _)) hR)
          have GN := Lib.hid (fun W (hW : Below w.heap.size w W) => getN_no (w := W) (s := a0) (by omega) (hl.on hW (Nat.le_refl _)) hN)
          have KI := Lib.hid (fun W (hW : Below w.heap.size w W) => kind_any a0 W (by omega) (hl.on hW (Nat.le_refl _)))
          rw [hkind] at KI
          simp only [cellA, Frm.zeroA] at GA
          simp only [Go.Proofs.YtlbebdkockejcaaDoor.cellR, Frm.zeroR] at GR
          simp only [cellN, Frm.zeroN] at GN
          have i0 : ¬ (2000 : Int) < (a0.size : Int) := by omega
          clear hA hR hN hkind hl hsz
          go_enter Tryd.func4, Tryd.ntmps4
          go_upto_region 7 with (first
            | (go_at_call 8; refine WK.out.mono ?_; rintro e w1 ⟨rfl, hb⟩; have B1 := Lib.hid hb; clear hb)
            | (go_at_call 11; refine (GA.out _ B1.out).mono ?_; rintro e w2 ⟨rfl, hb⟩; have B2 := Lib.hid (B1.out.trans (hb.mono B1.out.size)); clear hb))
          obtain ⟨v2, b4, hw, h_b4, hb, k_b4, hz⟩ := box_new w2 23 #[.int .i64 0, .int .i64 0, .int .i64 0, .int .i64 0, .string ⟨#[]⟩, .string ⟨#[]⟩, .int .i64 0]
          rw [← hw, ← h_b4]
          have C2 := Lib.hid (B2.out.trans (hb.mono B2.out.size))
          clear hw hb hz h_b4 k_b4
          go_upto_region 8 with (go_at_call 15; refine (GR.out _ C2.out).mono ?_; rintro e w3 ⟨vl, rfl, hown, hb⟩; obtain ⟨A1, c1, rfl⟩ := own_shape hown; have B3 := Lib.hid (C2.out.trans (hb.mono C2.out.size)); clear hb hown)
          obtain ⟨v3, b6, hw, h_b6, hb, k_b6, hz⟩ := box_new w3 27 #[.int .i64 0, .int .i64 0, .int .i64 0, .int .i64 0, .string ⟨#[]⟩, .slice A1 0 c1, .string ⟨#[]⟩, .bool false]
          rw [← hw, ← h_b6]
          have C3 := Lib.hid (B3.out.trans (hb.mono B3.out.size))
          clear hw hb hz h_b6 k_b6
          go_upto_region 9 with (go_at_call 19; refine (GN.out _ C3.out).mono ?_; rintro e w4 ⟨vl, rfl, hown, hb⟩; obtain ⟨A2, c2, rfl⟩ := own_shape hown; have B4 := Lib.hid (C3.out.trans (hb.mono C3.out.size)); clear hb hown)
          obtain ⟨v4, b8, hw, h_b8, hb, k_b8, hz⟩ := box_new w4 30 #[.int .i64 0, .int .i64 0, .int .i64 0, .string ⟨#[]⟩, .slice A2 0 c2]
          rw [← hw, ← h_b8]
          have C4 := Lib.hid (B4.out.trans (hb.mono B4.out.size))
          clear hw hb hz h_b8 k_b8
          go_wp2_with (go_at_call 12; refine (KI.out _ C4.out).mono ?_; rintro e w6 ⟨rfl, hb⟩; have B6 := Lib.hid (C4.out.trans (hb.mono C4.out.size)); clear hb)
          go_ret
          exact ⟨rfl, B6.out⟩
        · have hkind : Frm.kindB a0 = 2 := by rw [Frm.kindB, hA, hR, hN]; rfl
          obtain ⟨y1, y2, y3, y4, l⟩ := x
          have hv := (Frm.getN_some hN).1
          have hp := (Frm.getN_some hN).2.1
          have GA := Lib.hid (fun W (hW : Below w.heap.size w W) => getA_no (w := W) (s := a0) (by omega) (hl.on hW (Nat.le_refl _)) hA)
          have GR := Lib.hid (fun W (hW : Below w.heap.size w W) => getR_no (w := W) (s := a0) (by omega) (hl.on hW (Nat.le_refl _)) hR)
          have GN := Lib.hid (fun W (hW : Below w.heap.size w W) => getN_ok (w := W) (s := a0) (by omega) (hl.on hW (Nat.le_refl _)) hN)
          have PU := Lib.hid (fun v W (h : Cs W v l) => putNotice_any (w := W) (v := v) (r := ⟨y1, y2, y3, y4, l⟩) h)
          rw [hv] at PU
          simp only [if_true] at PU
          rw [hp] at PU
          have KI := Lib.hid (fun W (hW : Below w.heap.size w W) => kind_any a0 W (by omega) (hl.on hW (Nat.le_refl _)))
          rw [hkind] at KI
          simp only [cellA, Frm.zeroA] at GA
          simp only [Go.Proofs.YtlbebdkockejcaaDoor.cellR, Frm.zeroR] at GR
          simp only [cellN, Frm.zeroN] at GN PU
          have i0 : ¬ (2000 : Int) < (a0.size : Int) := by omega
          clear hA hR hN hkind hl hsz hv hp
          go_enter Tryd.func4, Tryd.ntmps4
          go_upto_region 7 with (first
            | (go_at_call 8; refine WK.out.mono ?_; rintro e w1 ⟨rfl, hb⟩; have B1 := Lib.hid hb; clear hb)
            | (go_at_call 11; refine (GA.out _ B1.out).mono ?_; rintro e w2 ⟨rfl, hb⟩; have B2 := Lib.hid (B1.out.trans (hb.mono B1.out.size)); clear hb))
          obtain ⟨v2, b4, hw, h_b4, hb, k_b4, hz⟩ := box_new w2 23 #[.int .i64 0, .int .i64 0, .int .i64 0, .int .i64 0, .string ⟨#[]⟩, .string ⟨#[]⟩, .int .i64 0]
          rw [← hw, ← h_b4]
          have C2 := Lib.hid (B2.out.trans (hb.mono B2.out.size))
          clear hw hb hz h_b4 k_b4
          go_upto_region 8 with (go_at_call 15; refine (GR.out _ C2.out).mono ?_; rintro e w3 ⟨vl, rfl, hown, hb⟩; obtain ⟨A1, c1, rfl⟩ := own_shape hown; have B3 := Lib.hid (C2.out.trans (hb.mono C2.out.size)); clear hb hown)
          obtain ⟨v3, b6, hw, h_b6, hb, k_b6, hz⟩ := box_new w3 27 #[.int .i64 0, .int .i64 0, .int .i64 0, .int .i64 0, .string ⟨#[]⟩, .slice A1 0 c1, .string ⟨#[]⟩, .bool false]
          rw [← hw, ← h_b6]
          have C3 := Lib.hid (B3.out.trans (hb.mono B3.out.size))
          clear hw hb hz h_b6 k_b6
          go_upto_region 9 with (go_at_call 19; refine (GN.out _ C3.out).mono ?_; rintro e w4 ⟨vl, rfl, hown, hb⟩; obtain ⟨A2, c2, rfl⟩ := own_shape hown; have S := Lib.hid (Cs.of_own (l := l) hown); have B4 := Lib.hid (C3.out.trans (hb.mono C3.out.size)); clear hb hown)
          obtain ⟨v4, b8, hw, h_b8, hb, k_b8, hz⟩ := box_new w4 30 #[.int .i64 y1, .int .i64 y2, .int .i64 y3, .string y4, .slice A2 l.length c2]
          rw [← hw, ← h_b8]
          have C4 := Lib.hid (B4.out.trans (hb.mono B4.out.size))
          have F := Lib.hid k_b8
          replace S := Lib.hid (S.out.below hb)
          clear hw hb hz h_b8 k_b8
          have c0 := F.out.cell 0
          have c1 := F.out.cell 1
          have c2 := F.out.cell 2
          have c3 := F.out.cell 3
          have c4 := F.out.cell 4
          simp only [List.getElem?_toArray, List.getElem?_cons_succ, List.getElem?_cons_zero] at c0 c1 c2 c3 c4
          go_wp2_with (first
            | (go_at_call 18; refine (PU.out _ _ S.out).mono ?_; rintro e w5 ⟨rfl, hb⟩; have B5 := Lib.hid (C4.out.trans (hb.mono C4.out.size)); clear hb)
            | (go_at_call 12; refine (KI.out _ B5.out).mono ?_; rintro e w6 ⟨rfl, hb⟩; have B6 := Lib.hid (B5.out.trans (hb.mono B5.out.size)); clear hb))
          go_ret
          exact ⟨rfl, B6.out⟩
      · have hkind : Frm.kindB a0 = 1 := by rw [Frm.kindB, hA, hR]; rfl
        have hN : Frm.getN a0 = none := by
          rcases hN : Frm.getN a0 with _ | z
          · rfl
          · have h1 := (Frm.getR_some hR).2.2.2; have h2 := (Frm.getN_some hN).2.2.2; rw [h1] at h2; cases h2
        obtain ⟨y1, y2, y3, y4, y5, l, y7, y8⟩ := x
        have hv := (Frm.getR_some hR).1
        have hp := (Frm.getR_some hR).2.1
        have GA := Lib.hid (fun W (hW : Below w.heap.size w W) => getA_no (w := W) (s := a0) (by omega) (hl.on hW (Nat.le_refl _)) hA)
        have GR := Lib.hid (fun W (hW : Below w.heap.size w W) => getR_ok (w := W) (s := a0) (by omega) (hl.on hW (Nat.le_refl _)) hR)
        have GN := Lib.hid (fun W (hW : Below w.heap.size w W) => getN_no (w := W) (s := a0) (by omega) (hl.on hW (Nat.le_refl _)) hN)
        have PU := Lib.hid (fun v W (h : Es W v l) => putReply_any (w := W) (v := v) (r := ⟨y1, y2, y3, y4, y5, l, y7, y8⟩) h)
        rw [hv] at PU
        simp only [if_true] at PU
        rw [hp] at PU
        have KI := Lib.hid (fun W (hW : Below w.heap.size w W) => kind_any a0 W (by omega) (hl.on hW (Nat.le_refl _)))
        rw [hkind] at KI
        simp only [cellA, Frm.zeroA] at GA
        simp only [Go.Proofs.YtlbebdkockejcaaDoor.cellR, Frm.zeroR] at GR PU
        simp only [cellN, Frm.zeroN] at GN
        have i0 : ¬ (2000 : Int) < (a0.size : Int) := by omega
        clear hA hR hN hkind hl hsz hv hp
        go_enter Tryd.func4, Tryd.ntmps4
        go_upto_region 7 with (first
          | (go_at_call 8; refine WK.out.mono ?_; rintro e w1 ⟨rfl, hb⟩; have B1 := Lib.hid hb; clear hb)
          | (go_at_call 11; refine (GA.out _ B1.out).mono ?_; rintro e w2 ⟨rfl, hb⟩; have B2 := Lib.hid (B1.out.trans (hb.mono B1.out.size)); clear hb))
        obtain ⟨v2, b4, hw, h_b4, hb, k_b4, hz⟩ := box_new w2 23 #[.int .i64 0, .int .i64 0, .int .i64 0, .int .i64 0, .string ⟨#[]⟩, .string ⟨#[]⟩, .int .i64 0]
        rw [← hw, ← h_b4]
        have C2 := Lib.hid (B2.out.trans (hb.mono B2.out.size))
        clear hw hb hz h_b4 k_b4
        go_upto_region 8 with (go_at_call 15; refine (GR.out _ C2.out).mono ?_; rintro e w3 ⟨vl, rfl, hown, hb⟩; obtain ⟨A1, c1, rfl⟩ := own_shape hown; have S := Lib.hid (Es.of_own (l := l) hown); have B3 := Lib.hid (C2.out.trans (hb.mono C2.out.size)); clear hb hown)
        obtain ⟨v3, b6, hw, h_b6, hb, k_b6, hz⟩ := box_new w3 27 #[.int .i64 y1, .int .i64 y2, .int .i64 y3, .int .i64 y4, .string y5, .slice A1 l.length c1, .string y7, .bool y8]
        rw [← hw, ← h_b6]
        have C3 := Lib.hid (B3.out.trans (hb.mono B3.out.size))
        have F := Lib.hid k_b6
        replace S := Lib.hid (S.out.below hb)
        clear hw hb hz h_b6 k_b6
        go_upto_region 9 with (go_at_call 19; refine (GN.out _ C3.out).mono ?_; rintro e w4 ⟨vl, rfl, hown, hb⟩; obtain ⟨A2, c2, rfl⟩ := own_shape hown; have B4 := Lib.hid (C3.out.trans (hb.mono C3.out.size)); replace F := Lib.hid (F.out.below hb); replace S := Lib.hid (S.out.below hb); clear hb hown)
        obtain ⟨v4, b8, hw, h_b8, hb, k_b8, hz⟩ := box_new w4 30 #[.int .i64 0, .int .i64 0, .int .i64 0, .string ⟨#[]⟩, .slice A2 0 c2]
        rw [← hw, ← h_b8]
        have C4 := Lib.hid (B4.out.trans (hb.mono B4.out.size))
        replace F := Lib.hid (F.out.below hb)
        replace S := Lib.hid (S.out.below hb)
        clear hw hb hz h_b8 k_b8
        have c0 := F.out.cell 0
        have c1 := F.out.cell 1
        have c2 := F.out.cell 2
        have c3 := F.out.cell 3
        have c4 := F.out.cell 4
        have c5 := F.out.cell 5
        have c6 := F.out.cell 6
        have c7 := F.out.cell 7
        simp only [List.getElem?_toArray, List.getElem?_cons_succ, List.getElem?_cons_zero] at c0 c1 c2 c3 c4 c5 c6 c7
        go_wp2_with (first
          | (go_at_call 14; refine (PU.out _ _ S.out).mono ?_; rintro e w5 ⟨rfl, hb⟩; have B5 := Lib.hid (C4.out.trans (hb.mono C4.out.size)); clear hb)
          | (go_at_call 12; refine (KI.out _ B5.out).mono ?_; rintro e w6 ⟨rfl, hb⟩; have B6 := Lib.hid (B5.out.trans (hb.mono B5.out.size)); clear hb))
        go_ret
        exact ⟨rfl, B6.out⟩
    · have hkind : Frm.kindB a0 = 0 := by rw [Frm.kindB, hA]; rfl
      have hR : Frm.getR a0 = none := by
        rcases hR : Frm.getR a0 with _ | z
        · rfl
        · have h1 := (Frm.getA_some hA).2.2.2; have h2 := (Frm.getR_some hR).2.2.2; rw [h1] at h2; cases h2
      have hN : Frm.getN a0 = none := by
        rcases hN : Frm.getN a0 with _ | z
        · rfl
        · have h1 := (Frm.getA_some hA).2.2.2; have h2 := (Frm.getN_some hN).2.2.2; rw [h1] at h2; cases h2
      obtain ⟨y1, y2, y3, y4, y5, y6, y7⟩ := x
      have hv := (Frm.getA_some hA).1
      have hp := (Frm.getA_some hA).2.1
      have GA := Lib.hid (fun W (hW : Below w.heap.size w W) => getA_ok (w := W) (s := a0) (by omega) (hl.on hW (Nat.le_refl _)) hA)
      have GR := Lib.hid (fun W (hW : Below w.heap.size w W) => getR_no (w := W) (s := a0) (by omega) (hl.on hW (Nat.le_refl _)) hR)
      have GN := Lib.hid (fun W (hW : Below w.heap.size w W) => getN_no (w := W) (s := a0) (by omega) (hl.on hW (Nat.le_refl _)) hN)
      have PU := Lib.hid (fun W => putAsk_any ⟨y1, y2, y3, y4, y5, y6, y7⟩ W)
      rw [hv] at PU
      simp only [if_true] at PU
      rw [hp] at PU
      have KI := Lib.hid (fun W (hW : Below w.heap.size w W) => kind_any a0 W (by omega) (hl.on hW (Nat.le_refl _)))
      rw [hkind] at KI
      simp only [cellA, Frm.zeroA] at GA PU
      simp only [Go.Proofs.YtlbebdkockejcaaDoor.cellR, Frm.zeroR] at GR
      simp only [cellN, Frm.zeroN] at GN
      have i0 : ¬ (2000 : Int) < (a0.size : Int) := by omega
      clear hA hR hN hkind hl hsz hv hp
      go_enter Tryd.func4, Tryd.ntmps4
      go_upto_region 7 with (first
        | (go_at_call 8; refine WK.out.mono ?_; rintro e w1 ⟨rfl, hb⟩; have B1 := Lib.hid hb; clear hb)
        | (go_at_call 11; refine (GA.out _ B1.out).mono ?_; rintro e w2 ⟨rfl, hb⟩; have B2 := Lib.hid (B1.out.trans (hb.mono B1.out.size)); clear hb))
      obtain ⟨v2, b4, hw, h_b4, hb, k_b4, hz⟩ := box_new w2 23 #[.int .i64 y1, .int .i64 y2, .int .i64 y3, .int .i64 y4, .string y5, .string y6, .int .i64 y7]
      rw [← hw, ← h_b4]
      have C2 := Lib.hid (B2.out.trans (hb.mono B2.out.size))
      have F := Lib.hid k_b4
      clear hw hb hz h_b4 k_b4
      go_upto_region 8 with (go_at_call 15; refine (GR.out _ C2.out).mono ?_; rintro e w3 ⟨vl, rfl, hown, hb⟩; obtain ⟨A1, c1, rfl⟩ := own_shape hown; have B3 := Lib.hid (C2.out.trans (hb.mono C2.out.size)); replace F := Lib.hid (F.out.below hb); clear hb hown)
      obtain ⟨v3, b6, hw, h_b6, hb, k_b6, hz⟩ := box_new w3 27 #[.int .i64 0, .int .i64 0, .int .i64 0, .int .i64 0, .string ⟨#[]⟩, .slice A1 0 c1, .string ⟨#[]⟩, .bool false]
      rw [← hw, ← h_b6]
      have C3 := Lib.hid (B3.out.trans (hb.mono B3.out.size))
      replace F := Lib.hid (F.out.below hb)
      clear hw hb hz h_b6 k_b6
      go_upto_region 9 with (go_at_call 19; refine (GN.out _ C3.out).mono ?_; rintro e w4 ⟨vl, rfl, hown, hb⟩; obtain ⟨A2, c2, rfl⟩ := own_shape hown; have B4 := Lib.hid (C3.out.trans (hb.mono C3.out.size)); replace F := Lib.hid (F.out.below hb); clear hb hown)
      obtain ⟨v4, b8, hw, h_b8, hb, k_b8, hz⟩ := box_new w4 30 #[.int .i64 0, .int .i64 0, .int .i64 0, .string ⟨#[]⟩, .slice A2 0 c2]
      rw [← hw, ← h_b8]
      have C4 := Lib.hid (B4.out.trans (hb.mono B4.out.size))
      replace F := Lib.hid (F.out.below hb)
      clear hw hb hz h_b8 k_b8
      have c0 := F.out.cell 0
      have c1 := F.out.cell 1
      have c2 := F.out.cell 2
      have c3 := F.out.cell 3
      have c4 := F.out.cell 4
      have c5 := F.out.cell 5
      have c6 := F.out.cell 6
      simp only [List.getElem?_toArray, List.getElem?_cons_succ, List.getElem?_cons_zero] at c0 c1 c2 c3 c4 c5 c6
      go_wp2_with (first
        | (go_at_call 10; refine (PU.out _).mono ?_; rintro e w5 ⟨rfl, hb⟩; have B5 := Lib.hid (C4.out.trans (hb.mono C4.out.size)); clear hb)
        | (go_at_call 12; refine (KI.out _ B5.out).mono ?_; rintro e w6 ⟨rfl, hb⟩; have B6 := Lib.hid (B5.out.trans (hb.mono B5.out.size)); clear hb))
      go_ret
      exact ⟨rfl, B6.out⟩
  · have i0 : (2000 : Int) < (a0.size : Int) := by omega
    clear hl hsz
    go_enter Tryd.func4, Tryd.ntmps4
    go_wp2_with (go_at_call 8; refine WK.out.mono ?_; rintro e w1 ⟨rfl, hb⟩; have B1 := Lib.hid hb; clear hb)
    go_ret
    exact ⟨rfl, B1.out⟩
set_option maxRecDepth 100000 in
theorem lifted (os : Os) (started : os.Started) (H : Type) (enc : TypeId × Value → H) :
    ReturnsInHanded {} Tryd.checked os 4 .any (fun w args => (Rows.frameOnlySpec.pre enc Tryd.prog Tryd.f4 [] false w args ∧ laidMetH Tryd.prog Rows.frameOnlyRow.laid w) ∧ sizedMet enc Tryd.prog Tryd.f4 (OpenSpec.ofChange Rows.frameOnlySpec) false w args)
      (Rows.frameOnlySpec.post enc Tryd.prog Tryd.f4 false true false false) := by
  refine returnsInHanded_of_change_and (C := Tryd.checked) (X := fun w _ => laidMetH Tryd.prog Rows.frameOnlyRow.laid w) (fun _ _ _ hh h => h.of_heap hh) own started (by kernel_rfl) Tryd.func4
    (ChangeSpec.witness_shaped (enc := enc) (C := Tryd.checked) (os := os) (X := fun w _ => laidMetH Tryd.prog Rows.frameOnlyRow.laid w) false (World.doorLaid Tryd.prog 400 os) #[.string ByteArray.empty] 8 rfl (World.shaped_of_RefB (by kernel_rfl) (by kernel_rfl)) (by kernel_rfl) (by kernel_rfl) (by kernel_rfl) (door_met os _)) ?_
  intro W base args ds gs before hval0 hW _ _ hL _
  have hval : ∀ (j : Nat) t v, Tryd.f4.params[j]? = some t → args[j]? = some v → Value.okWide Tryd.prog W .any base t v := hval0
  have hW' := hW
  obtain ⟨p, q, hA0, hV, rfl, hfz, hnd⟩ := hW
  have hA : DataW.TrodAll enc Tryd.prog W 0 (fun _ => true) true Tryd.f4.params.toList args.toList ds p := hA0
  rw [Tryd.params4] at hA hval
  obtain ⟨v0, vs0, d0, ds0, p0, q0, hargs, rfl, rfl, h0, r0⟩ := trodAll_cons hA
  obtain ⟨rfl, rfl, rfl⟩ := trodAll_nil r0
  obtain rfl : args = #[v0] := by cases args; simp_all
  obtain ⟨rfl, rfl⟩ := trodVars_none hV
  simp only [List.append_nil] at hW'
  obtain ⟨a0, rfl, rfl, rfl, w0⟩ := open_string Tryd.underlying9 (hval 0 9 v0 rfl rfl) h0
  have hl : LaidN W := laid_of hL
  clear hA0 hval0
  refine (walk W hl a0 w0).mono fun e W' ⟨he, bel⟩ => ?_
  subst he
  exact ⟨_, rfl, _, _, _, [], _, [], hW', trodAll_mk1 (shut_bool Tryd.underlying4 _), (trodAll_cons_mk (shut_string Tryd.underlying9 w0) trodAll_mk0), rfl, bel.frame _, fun h => by cases h⟩
theorem over : Rows.FrameOnlySaid :=
  OpenClaim.holds_of_wide 4 Tryd.f4 rfl rfl rfl rfl rfl rfl rfl ⟨rfl, rfl, rfl, rfl, rfl⟩ rfl rfl rfl rfl rfl (by kernel_rfl) Tryd.func4 (by kernel_rfl)
    (of_decide_eq_true (by kernel_rfl)) (by unfold Func.isWrapper; rw [if_neg (by decide +kernel)]; exact ⟨rfl, rfl⟩)
    (fun os started H enc _ => lifted os started H enc)
theorem proved : Rows.FrameOnlyCardSaid :=
  Claim7.holds_tied_plain_at .later [] [.handle] true Rows.frameOnlyCard.stood.harness true
    over (fun _ h => by cases h) (by kernel_rfl) (fun _ h => by cases h) frameOnly_row_tie rfl ⟨rfl, rfl⟩ (by kernel_rfl) rfl
    (fun f fn hf hfn => by
      obtain rfl : f = 4 := Option.some.inj ((show Tryd.prog.funcNamed "guilloche/guillochelaw16.FrameOnly" = some 4 by kernel_rfl).symm.trans hf) |>.symm
      obtain rfl : fn = Tryd.f4 := (Option.some.inj (Tryd.func4.symm.trans hfn)).symm
      exact ⟨by kernel_rfl, fun j t ht => by
        rw [Tryd.params4] at ht
        have hm : t ∈ [9] := by simpa using Array.mem_of_getElem? ht
        have hall : ([9].all fun u => !Tryd.prog.wantsStandIn u) = true := by kernel_rfl
        exact (show Tryd.prog.wantsStandIn t = false by simpa using List.all_eq_true.1 hall t hm)⟩)
    (by kernel_rfl)
end Go.Proofs.YtlbebdkockejcaaDoor.frameOnly

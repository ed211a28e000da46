/-
  PROVED HERE: what is put is got again: any ask, any reply, any notice that may be; and no other one of its bytes (of what is not short the law asks nothing). What errors.errorType holds is as the program lays it (tied).
-/
import Derived.Test.YtlbebdkockejcaaDoorFrmWorks
import Derived.Test.YtlbebdkockejcaaDoorFrmArgs
import Derived.Test.YtlbebdkockejcaaDoorFrmLaid
import Derived.Test.YtlbebdkockejcaaDoorFrmFew
import Derived.Test.YtlbebdkockejcaaDoorCards
import Derived.Test.YtlbebdkockejcaaDoorTie
import Derived.WalkKit
import Derived.ProofKit
import Derived.LaidMore
import Derived.OpenShut
import Derived.ShutString
import Derived.ChangeOld
import Derived.Below
import Derived.Stop.Joined
import Derived.SevenTiedAt
namespace Go.Proofs.YtlbebdkockejcaaDoor.frameBack
open Go.ChangeShapes Go.WideShapes Go.ChangeAt Go.RowKit Go.Proofs.Mdl
open Go.ChangeMaps (open_string shut_string)
set_option linter.unusedVariables false
set_option linter.unusedSimpArgs false
set_option maxRecDepth 100000 in
set_option maxHeartbeats 32000000 in
theorem walk (w : World) (hl : LaidN w) (v0 : Value) (m0 : Frm.Ask) (S0 : AskV w v0 m0) (v1 : Value) (m1 : Frm.Rep) (S1 : RepV w v1 m1) (v2 : Value) (m2 : Frm.Ntc) (S2 : NtcV w v2 m2) :
    Calls Tryd.prog 3 #[v0, v1, v2] w fun e w' => e = .returned (.bool true) ∧ Below w.heap.size w w' := by
  have HL := Lib.hid hl
  obtain ⟨y1, y2, y3, y4, y5, y6, y7⟩ := m0
  obtain ⟨r1, r2, r3, r4, r5, l, r7, r8⟩ := m1
  obtain ⟨n1, n2, n3, n4, c⟩ := m2
  obtain rfl := S0
  obtain ⟨vr, rfl, hr⟩ := S1
  obtain ⟨vn, rfl, hn⟩ := S2
  simp only at hr hn
  obtain ⟨A1, c1, rfl⟩ := hr.shape
  obtain ⟨A2, c2, rfl⟩ := hn.shape
  have LD := Lib.hid (fun W (hW : Below w.heap.size w W) => hl.on hW (Nat.le_refl _))
  have PA := Lib.hid (fun W => putAsk_any ⟨y1, y2, y3, y4, y5, y6, y7⟩ W)
  have VA := Lib.hid (fun W => validAsk_any ⟨y1, y2, y3, y4, y5, y6, y7⟩ W)
  have PR := Lib.hid (fun W (hW : Below w.heap.size w W) => putReply_any (w := W) (r := ⟨r1, r2, r3, r4, r5, l, r7, r8⟩) (hr.below hW))
  have VR := Lib.hid (fun W (hW : Below w.heap.size w W) => validReply_any (w := W) (r := ⟨r1, r2, r3, r4, r5, l, r7, r8⟩) (hr.below hW))
  have PN := Lib.hid (fun W (hW : Below w.heap.size w W) => putNotice_any (w := W) (r := ⟨n1, n2, n3, n4, c⟩) (hn.below hW))
  have VN := Lib.hid (fun W (hW : Below w.heap.size w W) => validNotice_any (w := W) (r := ⟨n1, n2, n3, n4, c⟩) (hn.below hW))
  have FE := Lib.hid (fun W (hW : Below w.heap.size w W) => ffew_any (w := W) (r := ⟨r1, r2, r3, r4, r5, l, r7, r8⟩) (n := ⟨n1, n2, n3, n4, c⟩) (hr.below hW) (hn.below hW))
  have HR := Lib.hid hr
  have HN := Lib.hid hn
  obtain ⟨w0, b0, b1, b2, hw, e_0, e_1, e_2, hb0, k0, k1, k2, hz⟩ := boxes3 w 23 27 30 #[.int .i64 y1, .int .i64 y2, .int .i64 y3, .int .i64 y4, .string y5, .string y6, .int .i64 y7] #[.int .i64 r1, .int .i64 r2, .int .i64 r3, .int .i64 r4, .string r5, .slice A1 l.length c1, .string r7, .bool r8] #[.int .i64 n1, .int .i64 n2, .int .i64 n3, .string n4, .slice A2 c.length c2]
  have WK := Lib.hid (fworks_any w0 (hl.on hb0 (Nat.le_refl _)))
  have B0 := Lib.hid hb0
  have K0 := Lib.hid k0
  have K1 := Lib.hid k1
  have K2 := Lib.hid k2
  simp only [cellA] at PA VA
  simp only [Go.Proofs.YtlbebdkockejcaaDoor.cellR] at PR VR FE
  simp only [cellN] at PN VN FE
  unfold cellA cellN Go.Proofs.YtlbebdkockejcaaDoor.cellR
  clear hl hb0 k0 k1 k2 hz hr hn HL
  go_enter Tryd.func3, Tryd.ntmps3
  go_upto_region 1 with (fail)
  rw [← hw, ← e_2, ← e_1, ← e_0]
  clear hw e_2 e_1 e_0
  go_upto_region 4 with (go_at_call 8; refine WK.out.mono ?_; rintro e w1 ⟨rfl, hb⟩; have B1 := Lib.hid (B0.out.trans (hb.mono B0.out.size)); replace K0 := Lib.hid (K0.out.below hb); replace K1 := Lib.hid (K1.out.below hb); replace K2 := Lib.hid (K2.out.below hb); clear hb)
  have c1_0 := K1.out.cell 0
  have c1_1 := K1.out.cell 1
  have c1_2 := K1.out.cell 2
  have c1_3 := K1.out.cell 3
  have c1_4 := K1.out.cell 4
  have c1_5 := K1.out.cell 5
  have c1_6 := K1.out.cell 6
  have c1_7 := K1.out.cell 7
  have c2_0 := K2.out.cell 0
  have c2_1 := K2.out.cell 1
  have c2_2 := K2.out.cell 2
  have c2_3 := K2.out.cell 3
  have c2_4 := K2.out.cell 4
  simp only [List.getElem?_toArray, List.getElem?_cons_succ, List.getElem?_cons_zero] at c1_0 c1_1 c1_2 c1_3 c1_4 c1_5 c1_6 c1_7 c2_0 c2_1 c2_2 c2_3 c2_4
  go_upto_region 5 with (go_at_call 9; refine (FE.out _ B1.out).mono ?_; rintro e w2 hf; obtain ⟨bf, rfl, hb⟩ := hf.out; have B2 := Lib.hid (B1.out.trans (hb.mono B1.out.size)); replace K0 := Lib.hid (K0.out.below hb); replace K1 := Lib.hid (K1.out.below hb); replace K2 := Lib.hid (K2.out.below hb); clear hb hf)
  clear FE WK c1_0 c1_1 c1_2 c1_3 c1_4 c1_5 c1_6 c1_7 c2_0 c2_1 c2_2 c2_3 c2_4
  have c0_0 := K0.out.cell 0
  have c0_1 := K0.out.cell 1
  have c0_2 := K0.out.cell 2
  have c0_3 := K0.out.cell 3
  have c0_4 := K0.out.cell 4
  have c0_5 := K0.out.cell 5
  have c0_6 := K0.out.cell 6
  simp only [List.getElem?_toArray, List.getElem?_cons_succ, List.getElem?_cons_zero] at c0_0 c0_1 c0_2 c0_3 c0_4 c0_5 c0_6
  by_cases hlook : bf = false ∨ 50 < y5.size ∨ 50 < y6.size
  · rcases hlook with rfl | hlook
    · go_wp2_with fail
      go_ret
      exact ⟨rfl, B2.out⟩
    · cases bf
      · go_wp2_with fail
        go_ret
        exact ⟨rfl, B2.out⟩
      · rcases hlook with h | h
        · have i1 : (50 : Int) < (y5.size : Int) := by omega
          go_wp2_with fail
          go_ret
          exact ⟨rfl, B2.out⟩
        · have i2 : (50 : Int) < (y6.size : Int) := by omega
          by_cases i1 : (50 : Int) < (y5.size : Int)
          · go_wp2_with fail
            go_ret
            exact ⟨rfl, B2.out⟩
          · go_wp2_with fail
            go_ret
            exact ⟨rfl, B2.out⟩
  · obtain rfl : bf = true := by rcases bf with _ | _ <;> first | rfl | exact absurd (.inl rfl) hlook
    have i1 : ¬ (50 : Int) < (y5.size : Int) := fun h => hlook (.inr (.inl (by omega)))
    have i2 : ¬ (50 : Int) < (y6.size : Int) := fun h => hlook (.inr (.inr (by omega)))
    go_upto_region 7 with (fail)
    clear hlook i1 i2 c0_0 c0_1 c0_2 c0_3 c0_4 c0_5 c0_6
    rcases hvA : Frm.validA ⟨y1, y2, y3, y4, y5, y6, y7⟩ with _ | _
    · rw [hvA] at PA VA
      simp only [Bool.false_eq_true, if_false] at PA
      have G := Lib.hid (fun W (hW : Below w.heap.size w W) => getA_no (w := W) (s := Frm.z0) (by decide) (LD.out W hW) (by rfl))
      simp only [cellA, Frm.zeroA] at G
      clear hvA
      have c0_0 := K0.out.cell 0
      have c0_1 := K0.out.cell 1
      have c0_2 := K0.out.cell 2
      have c0_3 := K0.out.cell 3
      have c0_4 := K0.out.cell 4
      have c0_5 := K0.out.cell 5
      have c0_6 := K0.out.cell 6
      simp only [List.getElem?_toArray, List.getElem?_cons_succ, List.getElem?_cons_zero] at c0_0 c0_1 c0_2 c0_3 c0_4 c0_5 c0_6
      go_upto_region 8 with (go_at_call 10; (with_reducible refine (PA.out _).mono ?_); rintro e v3 ⟨rfl, hb⟩; have D3 := Lib.hid (B2.out.trans (hb.mono B2.out.size)); replace K0 := Lib.hid (K0.out.below hb); replace K1 := Lib.hid (K1.out.below hb); replace K2 := Lib.hid (K2.out.below hb); clear hb)
      clear c0_0 c0_1 c0_2 c0_3 c0_4 c0_5 c0_6
      go_upto_region 9 with (go_at_call 11; (with_reducible refine (G.out _ D3.out).mono ?_); rintro e v4 ⟨rfl, hb⟩; have D4 := Lib.hid (D3.out.trans (hb.mono D3.out.size)); replace K0 := Lib.hid (K0.out.below hb); replace K1 := Lib.hid (K1.out.below hb); replace K2 := Lib.hid (K2.out.below hb); clear hb)
      obtain ⟨v5, xA, hw, h_xA, hb, k_xA, hz⟩ := box_new v4 23 #[.int .i64 0, .int .i64 0, .int .i64 0, .int .i64 0, .string ⟨#[]⟩, .string ⟨#[]⟩, .int .i64 0]
      rw [← hw, ← h_xA]
      have D5 := Lib.hid (D4.out.trans (hb.mono D4.out.size))
      replace K0 := Lib.hid (K0.out.below hb)
      replace K1 := Lib.hid (K1.out.below hb)
      replace K2 := Lib.hid (K2.out.below hb)
      have KX := Lib.hid k_xA
      clear hw hb hz h_xA k_xA
      have c0_0 := K0.out.cell 0
      have c0_1 := K0.out.cell 1
      have c0_2 := K0.out.cell 2
      have c0_3 := K0.out.cell 3
      have c0_4 := K0.out.cell 4
      have c0_5 := K0.out.cell 5
      have c0_6 := K0.out.cell 6
      simp only [List.getElem?_toArray, List.getElem?_cons_succ, List.getElem?_cons_zero] at c0_0 c0_1 c0_2 c0_3 c0_4 c0_5 c0_6
      go_upto_region 11 with (go_at_call 13; (with_reducible refine (VA.out _).mono ?_); rintro e v6 ⟨rfl, hb⟩; have D6 := Lib.hid (D5.out.trans (hb.mono D5.out.size)); replace K0 := Lib.hid (K0.out.below hb); replace K1 := Lib.hid (K1.out.below hb); replace K2 := Lib.hid (K2.out.below hb); clear hb)
      clear c0_0 c0_1 c0_2 c0_3 c0_4 c0_5 c0_6
      clear KX G PA VA
      rcases hvR : Frm.validR ⟨r1, r2, r3, r4, r5, l, r7, r8⟩ with _ | _
      · rw [hvR] at PR VR
        simp only [Bool.false_eq_true, if_false] at PR
        have G := Lib.hid (fun W (hW : Below w.heap.size w W) => getR_no (w := W) (s := Frm.z0) (by decide) (LD.out W hW) (by rfl))
        simp only [Go.Proofs.YtlbebdkockejcaaDoor.cellR, Frm.zeroR] at G
        clear hvR
        have c1_0 := K1.out.cell 0
        have c1_1 := K1.out.cell 1
        have c1_2 := K1.out.cell 2
        have c1_3 := K1.out.cell 3
        have c1_4 := K1.out.cell 4
        have c1_5 := K1.out.cell 5
        have c1_6 := K1.out.cell 6
        have c1_7 := K1.out.cell 7
        simp only [List.getElem?_toArray, List.getElem?_cons_succ, List.getElem?_cons_zero] at c1_0 c1_1 c1_2 c1_3 c1_4 c1_5 c1_6 c1_7
        go_upto_region 12 with (go_at_call 14; (with_reducible refine (PR.out _ D6.out).mono ?_); rintro e v7 ⟨rfl, hb⟩; have D7 := Lib.hid (D6.out.trans (hb.mono D6.out.size)); replace K0 := Lib.hid (K0.out.below hb); replace K1 := Lib.hid (K1.out.below hb); replace K2 := Lib.hid (K2.out.below hb); clear hb)
        clear c1_0 c1_1 c1_2 c1_3 c1_4 c1_5 c1_6 c1_7
        go_upto_region 13 with (go_at_call 15; (with_reducible refine (G.out _ D7.out).mono ?_); rintro e v8 ⟨vl, rfl, hown, hb⟩; obtain ⟨A3, c3, rfl⟩ := own_shape hown; have SX := Lib.hid (Es.of_own (l := []) hown); clear hown; have D8 := Lib.hid (D7.out.trans (hb.mono D7.out.size)); replace K0 := Lib.hid (K0.out.below hb); replace K1 := Lib.hid (K1.out.below hb); replace K2 := Lib.hid (K2.out.below hb); clear hb)
        obtain ⟨v9, xR, hw, h_xR, hb, k_xR, hz⟩ := box_new v8 27 #[.int .i64 0, .int .i64 0, .int .i64 0, .int .i64 0, .string ⟨#[]⟩, .slice A3 0 c3, .string ⟨#[]⟩, .bool false]
        rw [← hw, ← h_xR]
        have D9 := Lib.hid (D8.out.trans (hb.mono D8.out.size))
        replace K0 := Lib.hid (K0.out.below hb)
        replace K1 := Lib.hid (K1.out.below hb)
        replace K2 := Lib.hid (K2.out.below hb)
        have KX := Lib.hid k_xR
        replace SX := Lib.hid (SX.out.below hb)
        clear hw hb hz h_xR k_xR
        have cX_0 := KX.out.cell 0
        have cX_1 := KX.out.cell 1
        have cX_2 := KX.out.cell 2
        have cX_3 := KX.out.cell 3
        have cX_4 := KX.out.cell 4
        have cX_5 := KX.out.cell 5
        have cX_6 := KX.out.cell 6
        have cX_7 := KX.out.cell 7
        simp only [List.getElem?_toArray, List.getElem?_cons_succ, List.getElem?_cons_zero] at cX_0 cX_1 cX_2 cX_3 cX_4 cX_5 cX_6 cX_7
        have c1_0 := K1.out.cell 0
        have c1_1 := K1.out.cell 1
        have c1_2 := K1.out.cell 2
        have c1_3 := K1.out.cell 3
        have c1_4 := K1.out.cell 4
        have c1_5 := K1.out.cell 5
        have c1_6 := K1.out.cell 6
        have c1_7 := K1.out.cell 7
        simp only [List.getElem?_toArray, List.getElem?_cons_succ, List.getElem?_cons_zero] at c1_0 c1_1 c1_2 c1_3 c1_4 c1_5 c1_6 c1_7
        have SM := Lib.hid (sameR_any (w := v9) (a := Frm.zeroR) (b := ⟨r1, r2, r3, r4, r5, l, r7, r8⟩) SX.out (HR.out.below D9.out) (by decide))
        obtain ⟨bs, hbs⟩ : ∃ q : Bool, q = decide ((Frm.zeroR : Frm.Rep) = ⟨r1, r2, r3, r4, r5, l, r7, r8⟩) := ⟨_, rfl⟩
        rw [← hbs] at SM
        clear hbs
        simp only [Go.Proofs.YtlbebdkockejcaaDoor.cellR, Frm.zeroR] at SM
        go_upto_region 14 with (go_at_call 16; (with_reducible refine (SM.out).mono ?_); rintro e v10 ⟨rfl, hb⟩; have D10 := Lib.hid (D9.out.trans (hb.mono D9.out.size)); replace K0 := Lib.hid (K0.out.below hb); replace K1 := Lib.hid (K1.out.below hb); replace K2 := Lib.hid (K2.out.below hb); clear hb)
        clear cX_0 cX_1 cX_2 cX_3 cX_4 cX_5 cX_6 cX_7 c1_0 c1_1 c1_2 c1_3 c1_4 c1_5 c1_6 c1_7
        have c1_0 := K1.out.cell 0
        have c1_1 := K1.out.cell 1
        have c1_2 := K1.out.cell 2
        have c1_3 := K1.out.cell 3
        have c1_4 := K1.out.cell 4
        have c1_5 := K1.out.cell 5
        have c1_6 := K1.out.cell 6
        have c1_7 := K1.out.cell 7
        simp only [List.getElem?_toArray, List.getElem?_cons_succ, List.getElem?_cons_zero] at c1_0 c1_1 c1_2 c1_3 c1_4 c1_5 c1_6 c1_7
        go_upto_region 16 with (go_at_call 17; (with_reducible refine (VR.out _ D10.out).mono ?_); rintro e v11 ⟨rfl, hb⟩; have D11 := Lib.hid (D10.out.trans (hb.mono D10.out.size)); replace K0 := Lib.hid (K0.out.below hb); replace K1 := Lib.hid (K1.out.below hb); replace K2 := Lib.hid (K2.out.below hb); clear hb)
        clear c1_0 c1_1 c1_2 c1_3 c1_4 c1_5 c1_6 c1_7
        clear KX SX SM G PR VR
        rcases hvN : Frm.validN ⟨n1, n2, n3, n4, c⟩ with _ | _
        · rw [hvN] at PN VN
          simp only [Bool.false_eq_true, if_false] at PN
          have G := Lib.hid (fun W (hW : Below w.heap.size w W) => getN_no (w := W) (s := Frm.z0) (by decide) (LD.out W hW) (by rfl))
          simp only [cellN, Frm.zeroN] at G
          clear hvN
          have c2_0 := K2.out.cell 0
          have c2_1 := K2.out.cell 1
          have c2_2 := K2.out.cell 2
          have c2_3 := K2.out.cell 3
          have c2_4 := K2.out.cell 4
          simp only [List.getElem?_toArray, List.getElem?_cons_succ, List.getElem?_cons_zero] at c2_0 c2_1 c2_2 c2_3 c2_4
          go_upto_region 17 with (go_at_call 18; (with_reducible refine (PN.out _ D11.out).mono ?_); rintro e v12 ⟨rfl, hb⟩; have D12 := Lib.hid (D11.out.trans (hb.mono D11.out.size)); replace K0 := Lib.hid (K0.out.below hb); replace K1 := Lib.hid (K1.out.below hb); replace K2 := Lib.hid (K2.out.below hb); clear hb)
          clear c2_0 c2_1 c2_2 c2_3 c2_4
          go_upto_region 18 with (go_at_call 19; (with_reducible refine (G.out _ D12.out).mono ?_); rintro e v13 ⟨vl, rfl, hown, hb⟩; obtain ⟨A3, c3, rfl⟩ := own_shape hown; have SX := Lib.hid (Cs.of_own (l := []) hown); clear hown; have D13 := Lib.hid (D12.out.trans (hb.mono D12.out.size)); replace K0 := Lib.hid (K0.out.below hb); replace K1 := Lib.hid (K1.out.below hb); replace K2 := Lib.hid (K2.out.below hb); clear hb)
          obtain ⟨v14, xN, hw, h_xN, hb, k_xN, hz⟩ := box_new v13 30 #[.int .i64 0, .int .i64 0, .int .i64 0, .string ⟨#[]⟩, .slice A3 0 c3]
          rw [← hw, ← h_xN]
          have D14 := Lib.hid (D13.out.trans (hb.mono D13.out.size))
          replace K0 := Lib.hid (K0.out.below hb)
          replace K1 := Lib.hid (K1.out.below hb)
          replace K2 := Lib.hid (K2.out.below hb)
          have KX := Lib.hid k_xN
          replace SX := Lib.hid (SX.out.below hb)
          clear hw hb hz h_xN k_xN
          have cX_0 := KX.out.cell 0
          have cX_1 := KX.out.cell 1
          have cX_2 := KX.out.cell 2
          have cX_3 := KX.out.cell 3
          have cX_4 := KX.out.cell 4
          simp only [List.getElem?_toArray, List.getElem?_cons_succ, List.getElem?_cons_zero] at cX_0 cX_1 cX_2 cX_3 cX_4
          have c2_0 := K2.out.cell 0
          have c2_1 := K2.out.cell 1
          have c2_2 := K2.out.cell 2
          have c2_3 := K2.out.cell 3
          have c2_4 := K2.out.cell 4
          simp only [List.getElem?_toArray, List.getElem?_cons_succ, List.getElem?_cons_zero] at c2_0 c2_1 c2_2 c2_3 c2_4
          have SM := Lib.hid (sameN_any (w := v14) (a := Frm.zeroN) (b := ⟨n1, n2, n3, n4, c⟩) SX.out (HN.out.below D14.out) (by decide))
          obtain ⟨bs, hbs⟩ : ∃ q : Bool, q = decide ((Frm.zeroN : Frm.Ntc) = ⟨n1, n2, n3, n4, c⟩) := ⟨_, rfl⟩
          rw [← hbs] at SM
          clear hbs
          simp only [cellN, Frm.zeroN] at SM
          go_upto_region 19 with (go_at_call 20; (with_reducible refine (SM.out).mono ?_); rintro e v15 ⟨rfl, hb⟩; have D15 := Lib.hid (D14.out.trans (hb.mono D14.out.size)); replace K0 := Lib.hid (K0.out.below hb); replace K1 := Lib.hid (K1.out.below hb); replace K2 := Lib.hid (K2.out.below hb); clear hb)
          clear cX_0 cX_1 cX_2 cX_3 cX_4 c2_0 c2_1 c2_2 c2_3 c2_4
          have c2_0 := K2.out.cell 0
          have c2_1 := K2.out.cell 1
          have c2_2 := K2.out.cell 2
          have c2_3 := K2.out.cell 3
          have c2_4 := K2.out.cell 4
          simp only [List.getElem?_toArray, List.getElem?_cons_succ, List.getElem?_cons_zero] at c2_0 c2_1 c2_2 c2_3 c2_4
          go_wp2_with (go_at_call 21; (with_reducible refine (VN.out _ D15.out).mono ?_); rintro e v16 ⟨rfl, hb⟩; have D16 := Lib.hid (D15.out.trans (hb.mono D15.out.size)); replace K0 := Lib.hid (K0.out.below hb); replace K1 := Lib.hid (K1.out.below hb); replace K2 := Lib.hid (K2.out.below hb); clear hb)
          go_ret
          exact ⟨rfl, D16.out⟩
        · rw [hvN] at PN VN
          simp only [if_true] at PN
          have hG := Frm.getN_put hvN
          have hK := Frm.kindN hvN
          have hZ : (Frm.putN ⟨n1, n2, n3, n4, c⟩).size ≤ 999999 := by
            have h1 := Frm.listB_size_le (Frm.itemsN ⟨n1, n2, n3, n4, c⟩)
            have h2 := Frm.itemsN_dat (Frm.factsN hvN)
            show (Nod.listB (Frm.itemsN ⟨n1, n2, n3, n4, c⟩)).size ≤ _
            omega
          obtain ⟨TN, hT⟩ : ∃ q, q = Frm.putN ⟨n1, n2, n3, n4, c⟩ := ⟨_, rfl⟩
          rw [← hT] at hG hK hZ PN
          have G := Lib.hid (fun W (hW : Below w.heap.size w W) => getN_ok (w := W) hZ (LD.out W hW) hG)
          have KI := Lib.hid (fun W (hW : Below w.heap.size w W) => kind_any TN W hZ (LD.out W hW))
          rw [hK] at KI
          have hlen : c.length ≤ 1000 := by have := (Frm.factsN hvN).l; simp only at this; omega
          clear hG hK hZ hT
          simp only [cellN, Frm.zeroN] at G
          clear hvN
          have c2_0 := K2.out.cell 0
          have c2_1 := K2.out.cell 1
          have c2_2 := K2.out.cell 2
          have c2_3 := K2.out.cell 3
          have c2_4 := K2.out.cell 4
          simp only [List.getElem?_toArray, List.getElem?_cons_succ, List.getElem?_cons_zero] at c2_0 c2_1 c2_2 c2_3 c2_4
          go_upto_region 17 with (go_at_call 18; (with_reducible refine (PN.out _ D11.out).mono ?_); rintro e v12 ⟨rfl, hb⟩; have D12 := Lib.hid (D11.out.trans (hb.mono D11.out.size)); replace K0 := Lib.hid (K0.out.below hb); replace K1 := Lib.hid (K1.out.below hb); replace K2 := Lib.hid (K2.out.below hb); clear hb)
          clear c2_0 c2_1 c2_2 c2_3 c2_4
          go_upto_region 18 with (go_at_call 19; (with_reducible refine (G.out _ D12.out).mono ?_); rintro e v13 ⟨vl, rfl, hown, hb⟩; obtain ⟨A3, c3, rfl⟩ := own_shape hown; have SX := Lib.hid (Cs.of_own (l := c) hown); clear hown; have D13 := Lib.hid (D12.out.trans (hb.mono D12.out.size)); replace K0 := Lib.hid (K0.out.below hb); replace K1 := Lib.hid (K1.out.below hb); replace K2 := Lib.hid (K2.out.below hb); clear hb)
          obtain ⟨v14, xN, hw, h_xN, hb, k_xN, hz⟩ := box_new v13 30 #[.int .i64 n1, .int .i64 n2, .int .i64 n3, .string n4, .slice A3 c.length c3]
          rw [← hw, ← h_xN]
          have D14 := Lib.hid (D13.out.trans (hb.mono D13.out.size))
          replace K0 := Lib.hid (K0.out.below hb)
          replace K1 := Lib.hid (K1.out.below hb)
          replace K2 := Lib.hid (K2.out.below hb)
          have KX := Lib.hid k_xN
          replace SX := Lib.hid (SX.out.below hb)
          clear hw hb hz h_xN k_xN
          have cX_0 := KX.out.cell 0
          have cX_1 := KX.out.cell 1
          have cX_2 := KX.out.cell 2
          have cX_3 := KX.out.cell 3
          have cX_4 := KX.out.cell 4
          simp only [List.getElem?_toArray, List.getElem?_cons_succ, List.getElem?_cons_zero] at cX_0 cX_1 cX_2 cX_3 cX_4
          have c2_0 := K2.out.cell 0
          have c2_1 := K2.out.cell 1
          have c2_2 := K2.out.cell 2
          have c2_3 := K2.out.cell 3
          have c2_4 := K2.out.cell 4
          simp only [List.getElem?_toArray, List.getElem?_cons_succ, List.getElem?_cons_zero] at c2_0 c2_1 c2_2 c2_3 c2_4
          have SM := Lib.hid (sameN_any (w := v14) (a := ⟨n1, n2, n3, n4, c⟩) (b := ⟨n1, n2, n3, n4, c⟩) SX.out (HN.out.below D14.out) hlen)
          rw [decide_eq_true (rfl : (⟨n1, n2, n3, n4, c⟩ : Frm.Ntc) = ⟨n1, n2, n3, n4, c⟩)] at SM
          simp only [cellN] at SM
          go_upto_region 19 with (go_at_call 20; (with_reducible refine (SM.out).mono ?_); rintro e v15 ⟨rfl, hb⟩; have D15 := Lib.hid (D14.out.trans (hb.mono D14.out.size)); replace K0 := Lib.hid (K0.out.below hb); replace K1 := Lib.hid (K1.out.below hb); replace K2 := Lib.hid (K2.out.below hb); clear hb)
          clear cX_0 cX_1 cX_2 cX_3 cX_4 c2_0 c2_1 c2_2 c2_3 c2_4
          have c2_0 := K2.out.cell 0
          have c2_1 := K2.out.cell 1
          have c2_2 := K2.out.cell 2
          have c2_3 := K2.out.cell 3
          have c2_4 := K2.out.cell 4
          simp only [List.getElem?_toArray, List.getElem?_cons_succ, List.getElem?_cons_zero] at c2_0 c2_1 c2_2 c2_3 c2_4
          go_wp2_with (first | (go_at_call 12; (with_reducible refine (KI.out _ D15.out).mono ?_); rintro e v16 ⟨rfl, hb⟩; have D16 := Lib.hid (D15.out.trans (hb.mono D15.out.size)); replace K0 := Lib.hid (K0.out.below hb); replace K1 := Lib.hid (K1.out.below hb); replace K2 := Lib.hid (K2.out.below hb); clear c2_0 c2_1 c2_2 c2_3 c2_4; have c2_0 := K2.out.cell 0; have c2_1 := K2.out.cell 1; have c2_2 := K2.out.cell 2; have c2_3 := K2.out.cell 3; have c2_4 := K2.out.cell 4; simp only [List.getElem?_toArray, List.getElem?_cons_succ, List.getElem?_cons_zero] at c2_0 c2_1 c2_2 c2_3 c2_4; clear hb) | (go_at_call 21; (with_reducible refine (VN.out _ D16.out).mono ?_); rintro e v17 ⟨rfl, hb⟩; have D17 := Lib.hid (D16.out.trans (hb.mono D16.out.size)); replace K0 := Lib.hid (K0.out.below hb); replace K1 := Lib.hid (K1.out.below hb); replace K2 := Lib.hid (K2.out.below hb); clear hb))
          go_ret
          exact ⟨rfl, D17.out⟩
      · rw [hvR] at PR VR
        simp only [if_true] at PR
        have hG := Frm.getR_put hvR
        have hK := Frm.kindR hvR
        have hZ : (Frm.putR ⟨r1, r2, r3, r4, r5, l, r7, r8⟩).size ≤ 999999 := by
          have h1 := Frm.listB_size_le (Frm.itemsR ⟨r1, r2, r3, r4, r5, l, r7, r8⟩)
          have h2 := Frm.itemsR_dat (Frm.factsR hvR)
          show (Nod.listB (Frm.itemsR ⟨r1, r2, r3, r4, r5, l, r7, r8⟩)).size ≤ _
          omega
        obtain ⟨TR, hT⟩ : ∃ q, q = Frm.putR ⟨r1, r2, r3, r4, r5, l, r7, r8⟩ := ⟨_, rfl⟩
        rw [← hT] at hG hK hZ PR
        have G := Lib.hid (fun W (hW : Below w.heap.size w W) => getR_ok (w := W) hZ (LD.out W hW) hG)
        have KI := Lib.hid (fun W (hW : Below w.heap.size w W) => kind_any TR W hZ (LD.out W hW))
        rw [hK] at KI
        have hlen : l.length ≤ 1000 := by have := (Frm.factsR hvR).l; simp only at this; omega
        clear hG hK hZ hT
        simp only [Go.Proofs.YtlbebdkockejcaaDoor.cellR, Frm.zeroR] at G
        clear hvR
        have c1_0 := K1.out.cell 0
        have c1_1 := K1.out.cell 1
        have c1_2 := K1.out.cell 2
        have c1_3 := K1.out.cell 3
        have c1_4 := K1.out.cell 4
        have c1_5 := K1.out.cell 5
        have c1_6 := K1.out.cell 6
        have c1_7 := K1.out.cell 7
        simp only [List.getElem?_toArray, List.getElem?_cons_succ, List.getElem?_cons_zero] at c1_0 c1_1 c1_2 c1_3 c1_4 c1_5 c1_6 c1_7
        go_upto_region 12 with (go_at_call 14; (with_reducible refine (PR.out _ D6.out).mono ?_); rintro e v7 ⟨rfl, hb⟩; have D7 := Lib.hid (D6.out.trans (hb.mono D6.out.size)); replace K0 := Lib.hid (K0.out.below hb); replace K1 := Lib.hid (K1.out.below hb); replace K2 := Lib.hid (K2.out.below hb); clear hb)
        clear c1_0 c1_1 c1_2 c1_3 c1_4 c1_5 c1_6 c1_7
        go_upto_region 13 with (go_at_call 15; (with_reducible refine (G.out _ D7.out).mono ?_); rintro e v8 ⟨vl, rfl, hown, hb⟩; obtain ⟨A3, c3, rfl⟩ := own_shape hown; have SX := Lib.hid (Es.of_own (l := l) hown); clear hown; have D8 := Lib.hid (D7.out.trans (hb.mono D7.out.size)); replace K0 := Lib.hid (K0.out.below hb); replace K1 := Lib.hid (K1.out.below hb); replace K2 := Lib.hid (K2.out.below hb); clear hb)
        obtain ⟨v9, xR, hw, h_xR, hb, k_xR, hz⟩ := box_new v8 27 #[.int .i64 r1, .int .i64 r2, .int .i64 r3, .int .i64 r4, .string r5, .slice A3 l.length c3, .string r7, .bool r8]
        rw [← hw, ← h_xR]
        have D9 := Lib.hid (D8.out.trans (hb.mono D8.out.size))
        replace K0 := Lib.hid (K0.out.below hb)
        replace K1 := Lib.hid (K1.out.below hb)
        replace K2 := Lib.hid (K2.out.below hb)
        have KX := Lib.hid k_xR
        replace SX := Lib.hid (SX.out.below hb)
        clear hw hb hz h_xR k_xR
        have cX_0 := KX.out.cell 0
        have cX_1 := KX.out.cell 1
        have cX_2 := KX.out.cell 2
        have cX_3 := KX.out.cell 3
        have cX_4 := KX.out.cell 4
        have cX_5 := KX.out.cell 5
        have cX_6 := KX.out.cell 6
        have cX_7 := KX.out.cell 7
        simp only [List.getElem?_toArray, List.getElem?_cons_succ, List.getElem?_cons_zero] at cX_0 cX_1 cX_2 cX_3 cX_4 cX_5 cX_6 cX_7
        have c1_0 := K1.out.cell 0
        have c1_1 := K1.out.cell 1
        have c1_2 := K1.out.cell 2
        have c1_3 := K1.out.cell 3
        have c1_4 := K1.out.cell 4
        have c1_5 := K1.out.cell 5
        have c1_6 := K1.out.cell 6
        have c1_7 := K1.out.cell 7
        simp only [List.getElem?_toArray, List.getElem?_cons_succ, List.getElem?_cons_zero] at c1_0 c1_1 c1_2 c1_3 c1_4 c1_5 c1_6 c1_7
        have SM := Lib.hid (sameR_any (w := v9) (a := ⟨r1, r2, r3, r4, r5, l, r7, r8⟩) (b := ⟨r1, r2, r3, r4, r5, l, r7, r8⟩) SX.out (HR.out.below D9.out) hlen)
        rw [decide_eq_true (rfl : (⟨r1, r2, r3, r4, r5, l, r7, r8⟩ : Frm.Rep) = ⟨r1, r2, r3, r4, r5, l, r7, r8⟩)] at SM
        simp only [Go.Proofs.YtlbebdkockejcaaDoor.cellR] at SM
        go_upto_region 14 with (go_at_call 16; (with_reducible refine (SM.out).mono ?_); rintro e v10 ⟨rfl, hb⟩; have D10 := Lib.hid (D9.out.trans (hb.mono D9.out.size)); replace K0 := Lib.hid (K0.out.below hb); replace K1 := Lib.hid (K1.out.below hb); replace K2 := Lib.hid (K2.out.below hb); clear hb)
        clear cX_0 cX_1 cX_2 cX_3 cX_4 cX_5 cX_6 cX_7 c1_0 c1_1 c1_2 c1_3 c1_4 c1_5 c1_6 c1_7
        have c1_0 := K1.out.cell 0
        have c1_1 := K1.out.cell 1
        have c1_2 := K1.out.cell 2
        have c1_3 := K1.out.cell 3
        have c1_4 := K1.out.cell 4
        have c1_5 := K1.out.cell 5
        have c1_6 := K1.out.cell 6
        have c1_7 := K1.out.cell 7
        simp only [List.getElem?_toArray, List.getElem?_cons_succ, List.getElem?_cons_zero] at c1_0 c1_1 c1_2 c1_3 c1_4 c1_5 c1_6 c1_7
        go_upto_region 16 with (first | (go_at_call 12; (with_reducible refine (KI.out _ D10.out).mono ?_); rintro e v11 ⟨rfl, hb⟩; have D11 := Lib.hid (D10.out.trans (hb.mono D10.out.size)); replace K0 := Lib.hid (K0.out.below hb); replace K1 := Lib.hid (K1.out.below hb); replace K2 := Lib.hid (K2.out.below hb); clear c1_0 c1_1 c1_2 c1_3 c1_4 c1_5 c1_6 c1_7; have c1_0 := K1.out.cell 0; have c1_1 := K1.out.cell 1; have c1_2 := K1.out.cell 2; have c1_3 := K1.out.cell 3; have c1_4 := K1.out.cell 4; have c1_5 := K1.out.cell 5; have c1_6 := K1.out.cell 6; have c1_7 := K1.out.cell 7; simp only [List.getElem?_toArray, List.getElem?_cons_succ, List.getElem?_cons_zero] at c1_0 c1_1 c1_2 c1_3 c1_4 c1_5 c1_6 c1_7; clear hb) | (go_at_call 17; (with_reducible refine (VR.out _ D11.out).mono ?_); rintro e v12 ⟨rfl, hb⟩; have D12 := Lib.hid (D11.out.trans (hb.mono D11.out.size)); replace K0 := Lib.hid (K0.out.below hb); replace K1 := Lib.hid (K1.out.below hb); replace K2 := Lib.hid (K2.out.below hb); clear hb))
        clear c1_0 c1_1 c1_2 c1_3 c1_4 c1_5 c1_6 c1_7
        clear KX SX SM G PR VR KI hlen
        rcases hvN : Frm.validN ⟨n1, n2, n3, n4, c⟩ with _ | _
        · rw [hvN] at PN VN
          simp only [Bool.false_eq_true, if_false] at PN
          have G := Lib.hid (fun W (hW : Below w.heap.size w W) => getN_no (w := W) (s := Frm.z0) (by decide) (LD.out W hW) (by rfl))
          simp only [cellN, Frm.zeroN] at G
          clear hvN
          have c2_0 := K2.out.cell 0
          have c2_1 := K2.out.cell 1
          have c2_2 := K2.out.cell 2
          have c2_3 := K2.out.cell 3
          have c2_4 := K2.out.cell 4
          simp only [List.getElem?_toArray, List.getElem?_cons_succ, List.getElem?_cons_zero] at c2_0 c2_1 c2_2 c2_3 c2_4
          go_upto_region 17 with (go_at_call 18; (with_reducible refine (PN.out _ D12.out).mono ?_); rintro e v13 ⟨rfl, hb⟩; have D13 := Lib.hid (D12.out.trans (hb.mono D12.out.size)); replace K0 := Lib.hid (K0.out.below hb); replace K1 := Lib.hid (K1.out.below hb); replace K2 := Lib.hid (K2.out.below hb); clear hb)
          clear c2_0 c2_1 c2_2 c2_3 c2_4
          go_upto_region 18 with (go_at_call 19; (with_reducible refine (G.out _ D13.out).mono ?_); rintro e v14 ⟨vl, rfl, hown, hb⟩; obtain ⟨A3, c3, rfl⟩ := own_shape hown; have SX := Lib.hid (Cs.of_own (l := []) hown); clear hown; have D14 := Lib.hid (D13.out.trans (hb.mono D13.out.size)); replace K0 := Lib.hid (K0.out.below hb); replace K1 := Lib.hid (K1.out.below hb); replace K2 := Lib.hid (K2.out.below hb); clear hb)
          obtain ⟨v15, xN, hw, h_xN, hb, k_xN, hz⟩ := box_new v14 30 #[.int .i64 0, .int .i64 0, .int .i64 0, .string ⟨#[]⟩, .slice A3 0 c3]
          rw [← hw, ← h_xN]
          have D15 := Lib.hid (D14.out.trans (hb.mono D14.out.size))
          replace K0 := Lib.hid (K0.out.below hb)
          replace K1 := Lib.hid (K1.out.below hb)
          replace K2 := Lib.hid (K2.out.below hb)
          have KX := Lib.hid k_xN
          replace SX := Lib.hid (SX.out.below hb)
          clear hw hb hz h_xN k_xN
          have cX_0 := KX.out.cell 0
          have cX_1 := KX.out.cell 1
          have cX_2 := KX.out.cell 2
          have cX_3 := KX.out.cell 3
          have cX_4 := KX.out.cell 4
          simp only [List.getElem?_toArray, List.getElem?_cons_succ, List.getElem?_cons_zero] at cX_0 cX_1 cX_2 cX_3 cX_4
          have c2_0 := K2.out.cell 0
          have c2_1 := K2.out.cell 1
          have c2_2 := K2.out.cell 2
          have c2_3 := K2.out.cell 3
          have c2_4 := K2.out.cell 4
          simp only [List.getElem?_toArray, List.getElem?_cons_succ, List.getElem?_cons_zero] at c2_0 c2_1 c2_2 c2_3 c2_4
          have SM := Lib.hid (sameN_any (w := v15) (a := Frm.zeroN) (b := ⟨n1, n2, n3, n4, c⟩) SX.out (HN.out.below D15.out) (by decide))
          obtain ⟨bs, hbs⟩ : ∃ q : Bool, q = decide ((Frm.zeroN : Frm.Ntc) = ⟨n1, n2, n3, n4, c⟩) := ⟨_, rfl⟩
          rw [← hbs] at SM
          clear hbs
          simp only [cellN, Frm.zeroN] at SM
          go_upto_region 19 with (go_at_call 20; (with_reducible refine (SM.out).mono ?_); rintro e v16 ⟨rfl, hb⟩; have D16 := Lib.hid (D15.out.trans (hb.mono D15.out.size)); replace K0 := Lib.hid (K0.out.below hb); replace K1 := Lib.hid (K1.out.below hb); replace K2 := Lib.hid (K2.out.below hb); clear hb)
          clear cX_0 cX_1 cX_2 cX_3 cX_4 c2_0 c2_1 c2_2 c2_3 c2_4
          have c2_0 := K2.out.cell 0
          have c2_1 := K2.out.cell 1
          have c2_2 := K2.out.cell 2
          have c2_3 := K2.out.cell 3
          have c2_4 := K2.out.cell 4
          simp only [List.getElem?_toArray, List.getElem?_cons_succ, List.getElem?_cons_zero] at c2_0 c2_1 c2_2 c2_3 c2_4
          go_wp2_with (go_at_call 21; (with_reducible refine (VN.out _ D16.out).mono ?_); rintro e v17 ⟨rfl, hb⟩; have D17 := Lib.hid (D16.out.trans (hb.mono D16.out.size)); replace K0 := Lib.hid (K0.out.below hb); replace K1 := Lib.hid (K1.out.below hb); replace K2 := Lib.hid (K2.out.below hb); clear hb)
          go_ret
          exact ⟨rfl, D17.out⟩
        · rw [hvN] at PN VN
          simp only [if_true] at PN
          have hG := Frm.getN_put hvN
          have hK := Frm.kindN hvN
          have hZ : (Frm.putN ⟨n1, n2, n3, n4, c⟩).size ≤ 999999 := by
            have h1 := Frm.listB_size_le (Frm.itemsN ⟨n1, n2, n3, n4, c⟩)
            have h2 := Frm.itemsN_dat (Frm.factsN hvN)
            show (Nod.listB (Frm.itemsN ⟨n1, n2, n3, n4, c⟩)).size ≤ _
            omega
          obtain ⟨TN, hT⟩ : ∃ q, q = Frm.putN ⟨n1, n2, n3, n4, c⟩ := ⟨_, rfl⟩
          rw [← hT] at hG hK hZ PN
          have G := Lib.hid (fun W (hW : Below w.heap.size w W) => getN_ok (w := W) hZ (LD.out W hW) hG)
          have KI := Lib.hid (fun W (hW : Below w.heap.size w W) => kind_any TN W hZ (LD.out W hW))
          rw [hK] at KI
          have hlen : c.length ≤ 1000 := by have := (Frm.factsN hvN).l; simp only at this; omega
          clear hG hK hZ hT
          simp only [cellN, Frm.zeroN] at G
          clear hvN
          have c2_0 := K2.out.cell 0
          have c2_1 := K2.out.cell 1
          have c2_2 := K2.out.cell 2
          have c2_3 := K2.out.cell 3
          have c2_4 := K2.out.cell 4
          simp only [List.getElem?_toArray, List.getElem?_cons_succ, List.getElem?_cons_zero] at c2_0 c2_1 c2_2 c2_3 c2_4
          go_upto_region 17 with (go_at_call 18; (with_reducible refine (PN.out _ D12.out).mono ?_); rintro e v13 ⟨rfl, hb⟩; have D13 := Lib.hid (D12.out.trans (hb.mono D12.out.size)); replace K0 := Lib.hid (K0.out.below hb); replace K1 := Lib.hid (K1.out.below hb); replace K2 := Lib.hid (K2.out.below hb); clear hb)
          clear c2_0 c2_1 c2_2 c2_3 c2_4
          go_upto_region 18 with (go_at_call 19; (with_reducible refine (G.out _ D13.out).mono ?_); rintro e v14 ⟨vl, rfl, hown, hb⟩; obtain ⟨A3, c3, rfl⟩ := own_shape hown; have SX := Lib.hid (Cs.of_own (l := c) hown); clear hown; have D14 := Lib.hid (D13.out.trans (hb.mono D13.out.size)); replace K0 := Lib.hid (K0.out.below hb); replace K1 := Lib.hid (K1.out.below hb); replace K2 := Lib.hid (K2.out.below hb); clear hb)
          obtain ⟨v15, xN, hw, h_xN, hb, k_xN, hz⟩ := box_new v14 30 #[.int .i64 n1, .int .i64 n2, .int .i64 n3, .string n4, .slice A3 c.length c3]
          rw [← hw, ← h_xN]
          have D15 := Lib.hid (D14.out.trans (hb.mono D14.out.size))
          replace K0 := Lib.hid (K0.out.below hb)
          replace K1 := Lib.hid (K1.out.below hb)
          replace K2 := Lib.hid (K2.out.below hb)
          have KX := Lib.hid k_xN
          replace SX := Lib.hid (SX.out.below hb)
          clear hw hb hz h_xN k_xN
          have cX_0 := KX.out.cell 0
          have cX_1 := KX.out.cell 1
          have cX_2 := KX.out.cell 2
          have cX_3 := KX.out.cell 3
          have cX_4 := KX.out.cell 4
          simp only [List.getElem?_toArray, List.getElem?_cons_succ, List.getElem?_cons_zero] at cX_0 cX_1 cX_2 cX_3 cX_4
          have c2_0 := K2.out.cell 0
          have c2_1 := K2.out.cell 1
          have c2_2 := K2.out.cell 2
          have c2_3 := K2.out.cell 3
          have c2_4 := K2.out.cell 4
          simp only [List.getElem?_toArray, List.getElem?_cons_succ, List.getElem?_cons_zero] at c2_0 c2_1 c2_2 c2_3 c2_4
          have SM := Lib.hid (sameN_any (w := v15) (a := ⟨n1, n2, n3, n4, c⟩) (b := ⟨n1, n2, n3, n4, c⟩) SX.out (HN.out.below D15.out) hlen)
          rw [decide_eq_true (rfl : (⟨n1, n2, n3, n4, c⟩ : Frm.Ntc) = ⟨n1, n2, n3, n4, c⟩)] at SM
          simp only [cellN] at SM
          go_upto_region 19 with (go_at_call 20; (with_reducible refine (SM.out).mono ?_); rintro e v16 ⟨rfl, hb⟩; have D16 := Lib.hid (D15.out.trans (hb.mono D15.out.size)); replace K0 := Lib.hid (K0.out.below hb); replace K1 := Lib.hid (K1.out.below hb); replace K2 := Lib.hid (K2.out.below hb); clear hb)
          clear cX_0 cX_1 cX_2 cX_3 cX_4 c2_0 c2_1 c2_2 c2_3 c2_4
          have c2_0 := K2.out.cell 0
          have c2_1 := K2.out.cell 1
          have c2_2 := K2.out.cell 2
          have c2_3 := K2.out.cell 3
          have c2_4 := K2.out.cell 4
          simp only [List.getElem?_toArray, List.getElem?_cons_succ, List.getElem?_cons_zero] at c2_0 c2_1 c2_2 c2_3 c2_4
          go_wp2_with (first | (go_at_call 12; (with_reducible refine (KI.out _ D16.out).mono ?_); rintro e v17 ⟨rfl, hb⟩; have D17 := Lib.hid (D16.out.trans (hb.mono D16.out.size)); replace K0 := Lib.hid (K0.out.below hb); replace K1 := Lib.hid (K1.out.below hb); replace K2 := Lib.hid (K2.out.below hb); clear c2_0 c2_1 c2_2 c2_3 c2_4; have c2_0 := K2.out.cell 0; have c2_1 := K2.out.cell 1; have c2_2 := K2.out.cell 2; have c2_3 := K2.out.cell 3; have c2_4 := K2.out.cell 4; simp only [List.getElem?_toArray, List.getElem?_cons_succ, List.getElem?_cons_zero] at c2_0 c2_1 c2_2 c2_3 c2_4; clear hb) | (go_at_call 21; (with_reducible refine (VN.out _ D17.out).mono ?_); rintro e v18 ⟨rfl, hb⟩; have D18 := Lib.hid (D17.out.trans (hb.mono D17.out.size)); replace K0 := Lib.hid (K0.out.below hb); replace K1 := Lib.hid (K1.out.below hb); replace K2 := Lib.hid (K2.out.below hb); clear hb))
          go_ret
          exact ⟨rfl, D18.out⟩
    · rw [hvA] at PA VA
      simp only [if_true] at PA
      have hG := Frm.getA_put hvA
      have hK := Frm.kindA hvA
      have hZ : (Frm.putA ⟨y1, y2, y3, y4, y5, y6, y7⟩).size ≤ 999999 := by have := (Frm.putA_size hvA).2; omega
      obtain ⟨TA, hT⟩ : ∃ q, q = Frm.putA ⟨y1, y2, y3, y4, y5, y6, y7⟩ := ⟨_, rfl⟩
      rw [← hT] at hG hK hZ PA
      have G := Lib.hid (fun W (hW : Below w.heap.size w W) => getA_ok (w := W) hZ (LD.out W hW) hG)
      have KI := Lib.hid (fun W (hW : Below w.heap.size w W) => kind_any TA W hZ (LD.out W hW))
      rw [hK] at KI
      clear hG hK hZ hT
      simp only [cellA, Frm.zeroA] at G
      clear hvA
      have c0_0 := K0.out.cell 0
      have c0_1 := K0.out.cell 1
      have c0_2 := K0.out.cell 2
      have c0_3 := K0.out.cell 3
      have c0_4 := K0.out.cell 4
      have c0_5 := K0.out.cell 5
      have c0_6 := K0.out.cell 6
      simp only [List.getElem?_toArray, List.getElem?_cons_succ, List.getElem?_cons_zero] at c0_0 c0_1 c0_2 c0_3 c0_4 c0_5 c0_6
      go_upto_region 8 with (go_at_call 10; (with_reducible refine (PA.out _).mono ?_); rintro e v3 ⟨rfl, hb⟩; have D3 := Lib.hid (B2.out.trans (hb.mono B2.out.size)); replace K0 := Lib.hid (K0.out.below hb); replace K1 := Lib.hid (K1.out.below hb); replace K2 := Lib.hid (K2.out.below hb); clear hb)
      clear c0_0 c0_1 c0_2 c0_3 c0_4 c0_5 c0_6
      go_upto_region 9 with (go_at_call 11; (with_reducible refine (G.out _ D3.out).mono ?_); rintro e v4 ⟨rfl, hb⟩; have D4 := Lib.hid (D3.out.trans (hb.mono D3.out.size)); replace K0 := Lib.hid (K0.out.below hb); replace K1 := Lib.hid (K1.out.below hb); replace K2 := Lib.hid (K2.out.below hb); clear hb)
      obtain ⟨v5, xA, hw, h_xA, hb, k_xA, hz⟩ := box_new v4 23 #[.int .i64 y1, .int .i64 y2, .int .i64 y3, .int .i64 y4, .string y5, .string y6, .int .i64 y7]
      rw [← hw, ← h_xA]
      have D5 := Lib.hid (D4.out.trans (hb.mono D4.out.size))
      replace K0 := Lib.hid (K0.out.below hb)
      replace K1 := Lib.hid (K1.out.below hb)
      replace K2 := Lib.hid (K2.out.below hb)
      have KX := Lib.hid k_xA
      clear hw hb hz h_xA k_xA
      have cX_0 := KX.out.cell 0
      have cX_1 := KX.out.cell 1
      have cX_2 := KX.out.cell 2
      have cX_3 := KX.out.cell 3
      have cX_4 := KX.out.cell 4
      have cX_5 := KX.out.cell 5
      have cX_6 := KX.out.cell 6
      simp only [List.getElem?_toArray, List.getElem?_cons_succ, List.getElem?_cons_zero] at cX_0 cX_1 cX_2 cX_3 cX_4 cX_5 cX_6
      have c0_0 := K0.out.cell 0
      have c0_1 := K0.out.cell 1
      have c0_2 := K0.out.cell 2
      have c0_3 := K0.out.cell 3
      have c0_4 := K0.out.cell 4
      have c0_5 := K0.out.cell 5
      have c0_6 := K0.out.cell 6
      simp only [List.getElem?_toArray, List.getElem?_cons_succ, List.getElem?_cons_zero] at c0_0 c0_1 c0_2 c0_3 c0_4 c0_5 c0_6
      go_upto_region 11 with (first | (go_at_call 12; (with_reducible refine (KI.out _ D5.out).mono ?_); rintro e v6 ⟨rfl, hb⟩; have D6 := Lib.hid (D5.out.trans (hb.mono D5.out.size)); replace K0 := Lib.hid (K0.out.below hb); replace K1 := Lib.hid (K1.out.below hb); replace K2 := Lib.hid (K2.out.below hb); clear cX_0 cX_1 cX_2 cX_3 cX_4 cX_5 cX_6 c0_0 c0_1 c0_2 c0_3 c0_4 c0_5 c0_6; have c0_0 := K0.out.cell 0; have c0_1 := K0.out.cell 1; have c0_2 := K0.out.cell 2; have c0_3 := K0.out.cell 3; have c0_4 := K0.out.cell 4; have c0_5 := K0.out.cell 5; have c0_6 := K0.out.cell 6; simp only [List.getElem?_toArray, List.getElem?_cons_succ, List.getElem?_cons_zero] at c0_0 c0_1 c0_2 c0_3 c0_4 c0_5 c0_6; clear hb) | (go_at_call 13; (with_reducible refine (VA.out _).mono ?_); rintro e v7 ⟨rfl, hb⟩; have D7 := Lib.hid (D6.out.trans (hb.mono D6.out.size)); replace K0 := Lib.hid (K0.out.below hb); replace K1 := Lib.hid (K1.out.below hb); replace K2 := Lib.hid (K2.out.below hb); clear hb))
      clear c0_0 c0_1 c0_2 c0_3 c0_4 c0_5 c0_6
      clear KX G KI PA VA
      rcases hvR : Frm.validR ⟨r1, r2, r3, r4, r5, l, r7, r8⟩ with _ | _
      · rw [hvR] at PR VR
        simp only [Bool.false_eq_true, if_false] at PR
        have G := Lib.hid (fun W (hW : Below w.heap.size w W) => getR_no (w := W) (s := Frm.z0) (by decide) (LD.out W hW) (by rfl))
        simp only [Go.Proofs.YtlbebdkockejcaaDoor.cellR, Frm.zeroR] at G
        clear hvR
        have c1_0 := K1.out.cell 0
        have c1_1 := K1.out.cell 1
        have c1_2 := K1.out.cell 2
        have c1_3 := K1.out.cell 3
        have c1_4 := K1.out.cell 4
        have c1_5 := K1.out.cell 5
        have c1_6 := K1.out.cell 6
        have c1_7 := K1.out.cell 7
        simp only [List.getElem?_toArray, List.getElem?_cons_succ, List.getElem?_cons_zero] at c1_0 c1_1 c1_2 c1_3 c1_4 c1_5 c1_6 c1_7
        go_upto_region 12 with (go_at_call 14; (with_reducible refine (PR.out _ D7.out).mono ?_); rintro e v8 ⟨rfl, hb⟩; have D8 := Lib.hid (D7.out.trans (hb.mono D7.out.size)); replace K0 := Lib.hid (K0.out.below hb); replace K1 := Lib.hid (K1.out.below hb); replace K2 := Lib.hid (K2.out.below hb); clear hb)
        clear c1_0 c1_1 c1_2 c1_3 c1_4 c1_5 c1_6 c1_7
        go_upto_region 13 with (go_at_call 15; (with_reducible refine (G.out _ D8.out).mono ?_); rintro e v9 ⟨vl, rfl, hown, hb⟩; obtain ⟨A3, c3, rfl⟩ := own_shape hown; have SX := Lib.hid (Es.of_own (l := []) hown); clear hown; have D9 := Lib.hid (D8.out.trans (hb.mono D8.out.size)); replace K0 := Lib.hid (K0.out.below hb); replace K1 := Lib.hid (K1.out.below hb); replace K2 := Lib.hid (K2.out.below hb); clear hb)
        obtain ⟨v10, xR, hw, h_xR, hb, k_xR, hz⟩ := box_new v9 27 #[.int .i64 0, .int .i64 0, .int .i64 0, .int .i64 0, .string ⟨#[]⟩, .slice A3 0 c3, .string ⟨#[]⟩, .bool false]
        rw [← hw, ← h_xR]
        have D10 := Lib.hid (D9.out.trans (hb.mono D9.out.size))
        replace K0 := Lib.hid (K0.out.below hb)
        replace K1 := Lib.hid (K1.out.below hb)
        replace K2 := Lib.hid (K2.out.below hb)
        have KX := Lib.hid k_xR
        replace SX := Lib.hid (SX.out.below hb)
        clear hw hb hz h_xR k_xR
        have cX_0 := KX.out.cell 0
        have cX_1 := KX.out.cell 1
        have cX_2 := KX.out.cell 2
        have cX_3 := KX.out.cell 3
        have cX_4 := KX.out.cell 4
        have cX_5 := KX.out.cell 5
        have cX_6 := KX.out.cell 6
        have cX_7 := KX.out.cell 7
        simp only [List.getElem?_toArray, List.getElem?_cons_succ, List.getElem?_cons_zero] at cX_0 cX_1 cX_2 cX_3 cX_4 cX_5 cX_6 cX_7
        have c1_0 := K1.out.cell 0
        have c1_1 := K1.out.cell 1
        have c1_2 := K1.out.cell 2
        have c1_3 := K1.out.cell 3
        have c1_4 := K1.out.cell 4
        have c1_5 := K1.out.cell 5
        have c1_6 := K1.out.cell 6
        have c1_7 := K1.out.cell 7
        simp only [List.getElem?_toArray, List.getElem?_cons_succ, List.getElem?_cons_zero] at c1_0 c1_1 c1_2 c1_3 c1_4 c1_5 c1_6 c1_7
        have SM := Lib.hid (sameR_any (w := v10) (a := Frm.zeroR) (b := ⟨r1, r2, r3, r4, r5, l, r7, r8⟩) SX.out (HR.out.below D10.out) (by decide))
        obtain ⟨bs, hbs⟩ : ∃ q : Bool, q = decide ((Frm.zeroR : Frm.Rep) = ⟨r1, r2, r3, r4, r5, l, r7, r8⟩) := ⟨_, rfl⟩
        rw [← hbs] at SM
        clear hbs
        simp only [Go.Proofs.YtlbebdkockejcaaDoor.cellR, Frm.zeroR] at SM
        go_upto_region 14 with (go_at_call 16; (with_reducible refine (SM.out).mono ?_); rintro e v11 ⟨rfl, hb⟩; have D11 := Lib.hid (D10.out.trans (hb.mono D10.out.size)); replace K0 := Lib.hid (K0.out.below hb); replace K1 := Lib.hid (K1.out.below hb); replace K2 := Lib.hid (K2.out.below hb); clear hb)
        clear cX_0 cX_1 cX_2 cX_3 cX_4 cX_5 cX_6 cX_7 c1_0 c1_1 c1_2 c1_3 c1_4 c1_5 c1_6 c1_7
        have c1_0 := K1.out.cell 0
        have c1_1 := K1.out.cell 1
        have c1_2 := K1.out.cell 2
        have c1_3 := K1.out.cell 3
        have c1_4 := K1.out.cell 4
        have c1_5 := K1.out.cell 5
        have c1_6 := K1.out.cell 6
        have c1_7 := K1.out.cell 7
        simp only [List.getElem?_toArray, List.getElem?_cons_succ, List.getElem?_cons_zero] at c1_0 c1_1 c1_2 c1_3 c1_4 c1_5 c1_6 c1_7
        go_upto_region 16 with (go_at_call 17; (with_reducible refine (VR.out _ D11.out).mono ?_); rintro e v12 ⟨rfl, hb⟩; have D12 := Lib.hid (D11.out.trans (hb.mono D11.out.size)); replace K0 := Lib.hid (K0.out.below hb); replace K1 := Lib.hid (K1.out.below hb); replace K2 := Lib.hid (K2.out.below hb); clear hb)
        clear c1_0 c1_1 c1_2 c1_3 c1_4 c1_5 c1_6 c1_7
        clear KX SX SM G PR VR
        rcases hvN : Frm.validN ⟨n1, n2, n3, n4, c⟩ with _ | _
        · rw [hvN] at PN VN
          simp only [Bool.false_eq_true, if_false] at PN
          have G := Lib.hid (fun W (hW : Below w.heap.size w W) => getN_no (w := W) (s := Frm.z0) (by decide) (LD.out W hW) (by rfl))
          simp only [cellN, Frm.zeroN] at G
          clear hvN
          have c2_0 := K2.out.cell 0
          have c2_1 := K2.out.cell 1
          have c2_2 := K2.out.cell 2
          have c2_3 := K2.out.cell 3
          have c2_4 := K2.out.cell 4
          simp only [List.getElem?_toArray, List.getElem?_cons_succ, List.getElem?_cons_zero] at c2_0 c2_1 c2_2 c2_3 c2_4
          go_upto_region 17 with (go_at_call 18; (with_reducible refine (PN.out _ D12.out).mono ?_); rintro e v13 ⟨rfl, hb⟩; have D13 := Lib.hid (D12.out.trans (hb.mono D12.out.size)); replace K0 := Lib.hid (K0.out.below hb); replace K1 := Lib.hid (K1.out.below hb); replace K2 := Lib.hid (K2.out.below hb); clear hb)
          clear c2_0 c2_1 c2_2 c2_3 c2_4
          go_upto_region 18 with (go_at_call 19; (with_reducible refine (G.out _ D13.out).mono ?_); rintro e v14 ⟨vl, rfl, hown, hb⟩; obtain ⟨A3, c3, rfl⟩ := own_shape hown; have SX := Lib.hid (Cs.of_own (l := []) hown); clear hown; have D14 := Lib.hid (D13.out.trans (hb.mono D13.out.size)); replace K0 := Lib.hid (K0.out.below hb); replace K1 := Lib.hid (K1.out.below hb); replace K2 := Lib.hid (K2.out.below hb); clear hb)
          obtain ⟨v15, xN, hw, h_xN, hb, k_xN, hz⟩ := box_new v14 30 #[.int .i64 0, .int .i64 0, .int .i64 0, .string ⟨#[]⟩, .slice A3 0 c3]
          rw [← hw, ← h_xN]
          have D15 := Lib.hid (D14.out.trans (hb.mono D14.out.size))
          replace K0 := Lib.hid (K0.out.below hb)
          replace K1 := Lib.hid (K1.out.below hb)
          replace K2 := Lib.hid (K2.out.below hb)
          have KX := Lib.hid k_xN
          replace SX := Lib.hid (SX.out.below hb)
          clear hw hb hz h_xN k_xN
          have cX_0 := KX.out.cell 0
          have cX_1 := KX.out.cell 1
          have cX_2 := KX.out.cell 2
          have cX_3 := KX.out.cell 3
          have cX_4 := KX.out.cell 4
          simp only [List.getElem?_toArray, List.getElem?_cons_succ, List.getElem?_cons_zero] at cX_0 cX_1 cX_2 cX_3 cX_4
          have c2_0 := K2.out.cell 0
          have c2_1 := K2.out.cell 1
          have c2_2 := K2.out.cell 2
          have c2_3 := K2.out.cell 3
          have c2_4 := K2.out.cell 4
          simp only [List.getElem?_toArray, List.getElem?_cons_succ, List.getElem?_cons_zero] at c2_0 c2_1 c2_2 c2_3 c2_4
          have SM := Lib.hid (sameN_any (w := v15) (a := Frm.zeroN) (b := ⟨n1, n2, n3, n4, c⟩) SX.out (HN.out.below D15.out) (by decide))
          obtain ⟨bs, hbs⟩ : ∃ q : Bool, q = decide ((Frm.zeroN : Frm.Ntc) = ⟨n1, n2, n3, n4, c⟩) := ⟨_, rfl⟩
          rw [← hbs] at SM
          clear hbs
          simp only [cellN, Frm.zeroN] at SM
          go_upto_region 19 with (go_at_call 20; (with_reducible refine (SM.out).mono ?_); rintro e v16 ⟨rfl, hb⟩; have D16 := Lib.hid (D15.out.trans (hb.mono D15.out.size)); replace K0 := Lib.hid (K0.out.below hb); replace K1 := Lib.hid (K1.out.below hb); replace K2 := Lib.hid (K2.out.below hb); clear hb)
          clear cX_0 cX_1 cX_2 cX_3 cX_4 c2_0 c2_1 c2_2 c2_3 c2_4
          have c2_0 := K2.out.cell 0
          have c2_1 := K2.out.cell 1
          have c2_2 := K2.out.cell 2
          have c2_3 := K2.out.cell 3
          have c2_4 := K2.out.cell 4
          simp only [List.getElem?_toArray, List.getElem?_cons_succ, List.getElem?_cons_zero] at c2_0 c2_1 c2_2 c2_3 c2_4
          go_wp2_with (go_at_call 21; (with_reducible refine (VN.out _ D16.out).mono ?_); rintro e v17 ⟨rfl, hb⟩; have D17 := Lib.hid (D16.out.trans (hb.mono D16.out.size)); replace K0 := Lib.hid (K0.out.below hb); replace K1 := Lib.hid (K1.out.below hb); replace K2 := Lib.hid (K2.out.below hb); clear hb)
          go_ret
          exact ⟨rfl, D17.out⟩
        · rw [hvN] at PN VN
          simp only [if_true] at PN
          have hG := Frm.getN_put hvN
          have hK := Frm.kindN hvN
          have hZ : (Frm.putN ⟨n1, n2, n3, n4, c⟩).size ≤ 999999 := by
            have h1 := Frm.listB_size_le (Frm.itemsN ⟨n1, n2, n3, n4, c⟩)
            have h2 := Frm.itemsN_dat (Frm.factsN hvN)
            show (Nod.listB (Frm.itemsN ⟨n1, n2, n3, n4, c⟩)).size ≤ _
            omega
          obtain ⟨TN, hT⟩ : ∃ q, q = Frm.putN ⟨n1, n2, n3, n4, c⟩ := ⟨_, rfl⟩
          rw [← hT] at hG hK hZ PN
          have G := Lib.hid (fun W (hW : Below w.heap.size w W) => getN_ok (w := W) hZ (LD.out W hW) hG)
          have KI := Lib.hid (fun W (hW : Below w.heap.size w W) => kind_any TN W hZ (LD.out W hW))
          rw [hK] at KI
          have hlen : c.length ≤ 1000 := by have := (Frm.factsN hvN).l; simp only at this; omega
          clear hG hK hZ hT
          simp only [cellN, Frm.zeroN] at G
          clear hvN
          have c2_0 := K2.out.cell 0
          have c2_1 := K2.out.cell 1
          have c2_2 := K2.out.cell 2
          have c2_3 := K2.out.cell 3
          have c2_4 := K2.out.cell 4
          simp only [List.getElem?_toArray, List.getElem?_cons_succ, List.getElem?_cons_zero] at c2_0 c2_1 c2_2 c2_3 c2_4
          go_upto_region 17 with (go_at_call 18; (with_reducible refine (PN.out _ D12.out).mono ?_); rintro e v13 ⟨rfl, hb⟩; have D13 := Lib.hid (D12.out.trans (hb.mono D12.out.size)); replace K0 := Lib.hid (K0.out.below hb); replace K1 := Lib.hid (K1.out.below hb); replace K2 := Lib.hid (K2.out.below hb); clear hb)
          clear c2_0 c2_1 c2_2 c2_3 c2_4
          go_upto_region 18 with (go_at_call 19; (with_reducible refine (G.out _ D13.out).mono ?_); rintro e v14 ⟨vl, rfl, hown, hb⟩; obtain ⟨A3, c3, rfl⟩ := own_shape hown; have SX := Lib.hid (Cs.of_own (l := c) hown); clear hown; have D14 := Lib.hid (D13.out.trans (hb.mono D13.out.size)); replace K0 := Lib.hid (K0.out.below hb); replace K1 := Lib.hid (K1.out.below hb); replace K2 := Lib.hid (K2.out.below hb); clear hb)
          obtain ⟨v15, xN, hw, h_xN, hb, k_xN, hz⟩ := box_new v14 30 #[.int .i64 n1, .int .i64 n2, .int .i64 n3, .string n4, .slice A3 c.length c3]
          rw [← hw, ← h_xN]
          have D15 := Lib.hid (D14.out.trans (hb.mono D14.out.size))
          replace K0 := Lib.hid (K0.out.below hb)
          replace K1 := Lib.hid (K1.out.below hb)
          replace K2 := Lib.hid (K2.out.below hb)
          have KX := Lib.hid k_xN
          replace SX := Lib.hid (SX.out.below hb)
          clear hw hb hz h_xN k_xN
          have cX_0 := KX.out.cell 0
          have cX_1 := KX.out.cell 1
          have cX_2 := KX.out.cell 2
          have cX_3 := KX.out.cell 3
          have cX_4 := KX.out.cell 4
          simp only [List.getElem?_toArray, List.getElem?_cons_succ, List.getElem?_cons_zero] at cX_0 cX_1 cX_2 cX_3 cX_4
          have c2_0 := K2.out.cell 0
          have c2_1 := K2.out.cell 1
          have c2_2 := K2.out.cell 2
          have c2_3 := K2.out.cell 3
          have c2_4 := K2.out.cell 4
          simp only [List.getElem?_toArray, List.getElem?_cons_succ, List.getElem?_cons_zero] at c2_0 c2_1 c2_2 c2_3 c2_4
          have SM := Lib.hid (sameN_any (w := v15) (a := ⟨n1, n2, n3, n4, c⟩) (b := ⟨n1, n2, n3, n4, c⟩) SX.out (HN.out.below D15.out) hlen)
          rw [decide_eq_true (rfl : (⟨n1, n2, n3, n4, c⟩ : Frm.Ntc) = ⟨n1, n2, n3, n4, c⟩)] at SM
          simp only [cellN] at SM
          go_upto_region 19 with (go_at_call 20; (with_reducible refine (SM.out).mono ?_); rintro e v16 ⟨rfl, hb⟩; have D16 := Lib.hid (D15.out.trans (hb.mono D15.out.size)); replace K0 := Lib.hid (K0.out.below hb); replace K1 := Lib.hid (K1.out.below hb); replace K2 := Lib.hid (K2.out.below hb); clear hb)
          clear cX_0 cX_1 cX_2 cX_3 cX_4 c2_0 c2_1 c2_2 c2_3 c2_4
          have c2_0 := K2.out.cell 0
          have c2_1 := K2.out.cell 1
          have c2_2 := K2.out.cell 2
          have c2_3 := K2.out.cell 3
          have c2_4 := K2.out.cell 4
          simp only [List.getElem?_toArray, List.getElem?_cons_succ, List.getElem?_cons_zero] at c2_0 c2_1 c2_2 c2_3 c2_4
          go_wp2_with (first | (go_at_call 12; (with_reducible refine (KI.out _ D16.out).mono ?_); rintro e v17 ⟨rfl, hb⟩; have D17 := Lib.hid (D16.out.trans (hb.mono D16.out.size)); replace K0 := Lib.hid (K0.out.below hb); replace K1 := Lib.hid (K1.out.below hb); replace K2 := Lib.hid (K2.out.below hb); clear c2_0 c2_1 c2_2 c2_3 c2_4; have c2_0 := K2.out.cell 0; have c2_1 := K2.out.cell 1; have c2_2 := K2.out.cell 2; have c2_3 := K2.out.cell 3; have c2_4 := K2.out.cell 4; simp only [List.getElem?_toArray, List.getElem?_cons_succ, List.getElem?_cons_zero] at c2_0 c2_1 c2_2 c2_3 c2_4; clear hb) | (go_at_call 21; (with_reducible refine (VN.out _ D17.out).mono ?_); rintro e v18 ⟨rfl, hb⟩; have D18 := Lib.hid (D17.out.trans (hb.mono D17.out.size)); replace K0 := Lib.hid (K0.out.below hb); replace K1 := Lib.hid (K1.out.below hb); replace K2 := Lib.hid (K2.out.below hb); clear hb))
          go_ret
          exact ⟨rfl, D18.out⟩
      · rw [hvR] at PR VR
        simp only [if_true] at PR
        have hG := Frm.getR_put hvR
        have hK := Frm.kindR hvR
        have hZ : (Frm.putR ⟨r1, r2, r3, r4, r5, l, r7, r8⟩).size ≤ 999999 := by
          have h1 := Frm.listB_size_le (Frm.itemsR ⟨r1, r2, r3, r4, r5, l, r7, r8⟩)
          have h2 := Frm.itemsR_dat (Frm.factsR hvR)
          show (Nod.listB (Frm.itemsR ⟨r1, r2, r3, r4, r5, l, r7, r8⟩)).size ≤ _
          omega
        obtain ⟨TR, hT⟩ : ∃ q, q = Frm.putR ⟨r1, r2, r3, r4, r5, l, r7, r8⟩ := ⟨_, rfl⟩
        rw [← hT] at hG hK hZ PR
        have G := Lib.hid (fun W (hW : Below w.heap.size w W) => getR_ok (w := W) hZ (LD.out W hW) hG)
        have KI := Lib.hid (fun W (hW : Below w.heap.size w W) => kind_any TR W hZ (LD.out W hW))
        rw [hK] at KI
        have hlen : l.length ≤ 1000 := by have := (Frm.factsR hvR).l; simp only at this; omega
        clear hG hK hZ hT
        simp only [Go.Proofs.YtlbebdkockejcaaDoor.cellR, Frm.zeroR] at G
        clear hvR
        have c1_0 := K1.out.cell 0
        have c1_1 := K1.out.cell 1
        have c1_2 := K1.out.cell 2
        have c1_3 := K1.out.cell 3
        have c1_4 := K1.out.cell 4
        have c1_5 := K1.out.cell 5
        have c1_6 := K1.out.cell 6
        have c1_7 := K1.out.cell 7
        simp only [List.getElem?_toArray, List.getElem?_cons_succ, List.getElem?_cons_zero] at c1_0 c1_1 c1_2 c1_3 c1_4 c1_5 c1_6 c1_7
        go_upto_region 12 with (go_at_call 14; (with_reducible refine (PR.out _ D7.out).mono ?_); rintro e v8 ⟨rfl, hb⟩; have D8 := Lib.hid (D7.out.trans (hb.mono D7.out.size)); replace K0 := Lib.hid (K0.out.below hb); replace K1 := Lib.hid (K1.out.below hb); replace K2 := Lib.hid (K2.out.below hb); clear hb)
        clear c1_0 c1_1 c1_2 c1_3 c1_4 c1_5 c1_6 c1_7
        go_upto_region 13 with (go_at_call 15; (with_reducible refine (G.out _ D8.out).mono ?_); rintro e v9 ⟨vl, rfl, hown, hb⟩; obtain ⟨A3, c3, rfl⟩ := own_shape hown; have SX := Lib.hid (Es.of_own (l := l) hown); clear hown; have D9 := Lib.hid (D8.out.trans (hb.mono D8.out.size)); replace K0 := Lib.hid (K0.out.below hb); replace K1 := Lib.hid (K1.out.below hb); replace K2 := Lib.hid (K2.out.below hb); clear hb)
        obtain ⟨v10, xR, hw, h_xR, hb, k_xR, hz⟩ := box_new v9 27 #[.int .i64 r1, .int .i64 r2, .int .i64 r3, .int .i64 r4, .string r5, .slice A3 l.length c3, .string r7, .bool r8]
        rw [← hw, ← h_xR]
        have D10 := Lib.hid (D9.out.trans (hb.mono D9.out.size))
        replace K0 := Lib.hid (K0.out.below hb)
        replace K1 := Lib.hid (K1.out.below hb)
        replace K2 := Lib.hid (K2.out.below hb)
        have KX := Lib.hid k_xR
        replace SX := Lib.hid (SX.out.below hb)
        clear hw hb hz h_xR k_xR
        have cX_0 := KX.out.cell 0
        have cX_1 := KX.out.cell 1
        have cX_2 := KX.out.cell 2
        have cX_3 := KX.out.cell 3
        have cX_4 := KX.out.cell 4
        have cX_5 := KX.out.cell 5
        have cX_6 := KX.out.cell 6
        have cX_7 := KX.out.cell 7
        simp only [List.getElem?_toArray, List.getElem?_cons_succ, List.getElem?_cons_zero] at cX_0 cX_1 cX_2 cX_3 cX_4 cX_5 cX_6 cX_7
        have c1_0 := K1.out.cell 0
        have c1_1 := K1.out.cell 1
        have c1_2 := K1.out.cell 2
        have c1_3 := K1.out.cell 3
        have c1_4 := K1.out.cell 4
        have c1_5 := K1.out.cell 5
        have c1_6 := K1.out.cell 6
        have c1_7 := K1.out.cell 7
        simp only [List.getElem?_toArray, List.getElem?_cons_succ, List.getElem?_cons_zero] at c1_0 c1_1 c1_2 c1_3 c1_4 c1_5 c1_6 c1_7
        have SM := Lib.hid (sameR_any (w := v10) (a := ⟨r1, r2, r3, r4, r5, l, r7, r8⟩) (b := ⟨r1, r2, r3, r4, r5, l, r7, r8⟩) SX.out (HR.out.below D10.out) hlen)
        rw [decide_eq_true (rfl : (⟨r1, r2, r3, r4, r5, l, r7, r8⟩ : Frm.Rep) = ⟨r1, r2, r3, r4, r5, l, r7, r8⟩)] at SM
        simp only [Go.Proofs.YtlbebdkockejcaaDoor.cellR] at SM
        go_upto_region 14 with (go_at_call 16; (with_reducible refine (SM.out).mono ?_); rintro e v11 ⟨rfl, hb⟩; have D11 := Lib.hid (D10.out.trans (hb.mono D10.out.size)); replace K0 := Lib.hid (K0.out.below hb); replace K1 := Lib.hid (K1.out.below hb); replace K2 := Lib.hid (K2.out.below hb); clear hb)
        clear cX_0 cX_1 cX_2 cX_3 cX_4 cX_5 cX_6 cX_7 c1_0 c1_1 c1_2 c1_3 c1_4 c1_5 c1_6 c1_7
        have c1_0 := K1.out.cell 0
        have c1_1 := K1.out.cell 1
        have c1_2 := K1.out.cell 2
        have c1_3 := K1.out.cell 3
        have c1_4 := K1.out.cell 4
        have c1_5 := K1.out.cell 5
        have c1_6 := K1.out.cell 6
        have c1_7 := K1.out.cell 7
        simp only [List.getElem?_toArray, List.getElem?_cons_succ, List.getElem?_cons_zero] at c1_0 c1_1 c1_2 c1_3 c1_4 c1_5 c1_6 c1_7
        go_upto_region 16 with (first | (go_at_call 12; (with_reducible refine (KI.out _ D11.out).mono ?_); rintro e v12 ⟨rfl, hb⟩; have D12 := Lib.hid (D11.out.trans (hb.mono D11.out.size)); replace K0 := Lib.hid (K0.out.below hb); replace K1 := Lib.hid (K1.out.below hb); replace K2 := Lib.hid (K2.out.below hb); clear c1_0 c1_1 c1_2 c1_3 c1_4 c1_5 c1_6 c1_7; have c1_0 := K1.out.cell 0; have c1_1 := K1.out.cell 1; have c1_2 := K1.out.cell 2; have c1_3 := K1.out.cell 3; have c1_4 := K1.out.cell 4; have c1_5 := K1.out.cell 5; have c1_6 := K1.out.cell 6; have c1_7 := K1.out.cell 7; simp only [List.getElem?_toArray, List.getElem?_cons_succ, List.getElem?_cons_zero] at c1_0 c1_1 c1_2 c1_3 c1_4 c1_5 c1_6 c1_7; clear hb) | (go_at_call 17; (with_reducible refine (VR.out _ D12.out).mono ?_); rintro e v13 ⟨rfl, hb⟩; have D13 := Lib.hid (D12.out.trans (hb.mono D12.out.size)); replace K0 := Lib.hid (K0.out.below hb); replace K1 := Lib.hid (K1.out.below hb); replace K2 := Lib.hid (K2.out.below hb); clear hb))
        clear c1_0 c1_1 c1_2 c1_3 c1_4 c1_5 c1_6 c1_7
        clear KX SX SM G PR VR KI hlen
        rcases hvN : Frm.validN ⟨n1, n2, n3, n4, c⟩ with _ | _
        · rw [hvN] at PN VN
          simp only [Bool.false_eq_true, if_false] at PN
          have G := Lib.hid (fun W (hW : Below w.heap.size w W) => getN_no (w := W) (s := Frm.z0) (by decide) (LD.out W hW) (by rfl))
          simp only [cellN, Frm.zeroN] at G
          clear hvN
          have c2_0 := K2.out.cell 0
          have c2_1 := K2.out.cell 1
          have c2_2 := K2.out.cell 2
          have c2_3 := K2.out.cell 3
          have c2_4 := K2.out.cell 4
          simp only [List.getElem?_toArray, List.getElem?_cons_succ, List.getElem?_cons_zero] at c2_0 c2_1 c2_2 c2_3 c2_4
          go_upto_region 17 with (go_at_call 18; (with_reducible refine (PN.out _ D13.out).mono ?_); rintro e v14 ⟨rfl, hb⟩; have D14 := Lib.hid (D13.out.trans (hb.mono D13.out.size)); replace K0 := Lib.hid (K0.out.below hb); replace K1 := Lib.hid (K1.out.below hb); replace K2 := Lib.hid (K2.out.below hb); clear hb)
          clear c2_0 c2_1 c2_2 c2_3 c2_4
          go_upto_region 18 with (go_at_call 19; (with_reducible refine (G.out _ D14.out).mono ?_); rintro e v15 ⟨vl, rfl, hown, hb⟩; obtain ⟨A3, c3, rfl⟩ := own_shape hown; have SX := Lib.hid (Cs.of_own (l := []) hown); clear hown; have D15 := Lib.hid (D14.out.trans (hb.mono D14.out.size)); replace K0 := Lib.hid (K0.out.below hb); replace K1 := Lib.hid (K1.out.below hb); replace K2 := Lib.hid (K2.out.below hb); clear hb)
          obtain ⟨v16, xN, hw, h_xN, hb, k_xN, hz⟩ := box_new v15 30 #[.int .i64 0, .int .i64 0, .int .i64 0, .string ⟨#[]⟩, .slice A3 0 c3]
          rw [← hw, ← h_xN]
          have D16 := Lib.hid (D15.out.trans (hb.mono D15.out.size))
          replace K0 := Lib.hid (K0.out.below hb)
          replace K1 := Lib.hid (K1.out.below hb)
          replace K2 := Lib.hid (K2.out.below hb)
          have KX := Lib.hid k_xN
          replace SX := Lib.hid (SX.out.below hb)
          clear hw hb hz h_xN k_xN
          have cX_0 := KX.out.cell 0
          have cX_1 := KX.out.cell 1
          have cX_2 := KX.out.cell 2
          have cX_3 := KX.out.cell 3
          have cX_4 := KX.out.cell 4
          simp only [List.getElem?_toArray, List.getElem?_cons_succ, List.getElem?_cons_zero] at cX_0 cX_1 cX_2 cX_3 cX_4
          have c2_0 := K2.out.cell 0
          have c2_1 := K2.out.cell 1
          have c2_2 := K2.out.cell 2
          have c2_3 := K2.out.cell 3
          have c2_4 := K2.out.cell 4
          simp only [List.getElem?_toArray, List.getElem?_cons_succ, List.getElem?_cons_zero] at c2_0 c2_1 c2_2 c2_3 c2_4
          have SM := Lib.hid (sameN_any (w := v16) (a := Frm.zeroN) (b := ⟨n1, n2, n3, n4, c⟩) SX.out (HN.out.below D16.out) (by decide))
          obtain ⟨bs, hbs⟩ : ∃ q : Bool, q = decide ((Frm.zeroN : Frm.Ntc) = ⟨n1, n2, n3, n4, c⟩) := ⟨_, rfl⟩
          rw [← hbs] at SM
          clear hbs
          simp only [cellN, Frm.zeroN] at SM
          go_upto_region 19 with (go_at_call 20; (with_reducible refine (SM.out).mono ?_); rintro e v17 ⟨rfl, hb⟩; have D17 := Lib.hid (D16.out.trans (hb.mono D16.out.size)); replace K0 := Lib.hid (K0.out.below hb); replace K1 := Lib.hid (K1.out.below hb); replace K2 := Lib.hid (K2.out.below hb); clear hb)
          clear cX_0 cX_1 cX_2 cX_3 cX_4 c2_0 c2_1 c2_2 c2_3 c2_4
          have c2_0 := K2.out.cell 0
          have c2_1 := K2.out.cell 1
          have c2_2 := K2.out.cell 2
          have c2_3 := K2.out.cell 3
          have c2_4 := K2.out.cell 4
          simp only [List.getElem?_toArray, List.getElem?_cons_succ, List.getElem?_cons_zero] at c2_0 c2_1 c2_2 c2_3 c2_4
          go_wp2_with (go_at_call 21; (with_reducible refine (VN.out _ D17.out).mono ?_); rintro e v18 ⟨rfl, hb⟩; have D18 := Lib.hid (D17.out.trans (hb.mono D17.out.size)); replace K0 := Lib.hid (K0.out.below hb); replace K1 := Lib.hid (K1.out.below hb); replace K2 := Lib.hid (K2.out.below hb); clear hb)
          go_ret
          exact ⟨rfl, D18.out⟩
        · rw [hvN] at PN VN
          simp only [if_true] at PN
          have hG := Frm.getN_put hvN
          have hK := Frm.kindN hvN
          have hZ : (Frm.putN ⟨n1, n2, n3, n4, c⟩).size ≤ 999999 := by
            have h1 := Frm.listB_size_le (Frm.itemsN ⟨n1, n2, n3, n4, c⟩)
            have h2 := Frm.itemsN_dat (Frm.factsN hvN)
            show (Nod.listB (Frm.itemsN ⟨n1, n2, n3, n4, c⟩)).size ≤ _
            omega
          obtain ⟨TN, hT⟩ : ∃ q, q = Frm.putN ⟨n1, n2, n3, n4, c⟩ := ⟨_, rfl⟩
          rw [← hT] at hG hK hZ PN
          have G := Lib.hid (fun W (hW : Below w.heap.size w W) => getN_ok (w := W) hZ (LD.out W hW) hG)
          have KI := Lib.hid (fun W (hW : Below w.heap.size w W) => kind_any TN W hZ (LD.out W hW))
          rw [hK] at KI
          have hlen : c.length ≤ 1000 := by have := (Frm.factsN hvN).l; simp only at this; omega
          clear hG hK hZ hT
          simp only [cellN, Frm.zeroN] at G
          clear hvN
          have c2_0 := K2.out.cell 0
          have c2_1 := K2.out.cell 1
          have c2_2 := K2.out.cell 2
          have c2_3 := K2.out.cell 3
          have c2_4 := K2.out.cell 4
          simp only [List.getElem?_toArray, List.getElem?_cons_succ, List.getElem?_cons_zero] at c2_0 c2_1 c2_2 c2_3 c2_4
          go_upto_region 17 with (go_at_call 18; (with_reducible refine (PN.out _ D13.out).mono ?_); rintro e v14 ⟨rfl, hb⟩; have D14 := Lib.hid (D13.out.trans (hb.mono D13.out.size)); replace K0 := Lib.hid (K0.out.below hb); replace K1 := Lib.hid (K1.out.below hb); replace K2 := Lib.hid (K2.out.below hb); clear hb)
          clear c2_0 c2_1 c2_2 c2_3 c2_4
          go_upto_region 18 with (go_at_call 19; (with_reducible refine (G.out _ D14.out).mono ?_); rintro e v15 ⟨vl, rfl, hown, hb⟩; obtain ⟨A3, c3, rfl⟩ := own_shape hown; have SX := Lib.hid (Cs.of_own (l := c) hown); clear hown; have D15 := Lib.hid (D14.out.trans (hb.mono D14.out.size)); replace K0 := Lib.hid (K0.out.below hb); replace K1 := Lib.hid (K1.out.below hb); replace K2 := Lib.hid (K2.out.below hb); clear hb)
          obtain ⟨v16, xN, hw, h_xN, hb, k_xN, hz⟩ := box_new v15 30 #[.int .i64 n1, .int .i64 n2, .int .i64 n3, .string n4, .slice A3 c.length c3]
          rw [← hw, ← h_xN]
          have D16 := Lib.hid (D15.out.trans (hb.mono D15.out.size))
          replace K0 := Lib.hid (K0.out.below hb)
          replace K1 := Lib.hid (K1.out.below hb)
          replace K2 := Lib.hid (K2.out.below hb)
          have KX := Lib.hid k_xN
          replace SX := Lib.hid (SX.out.below hb)
          clear hw hb hz h_xN k_xN
          have cX_0 := KX.out.cell 0
          have cX_1 := KX.out.cell 1
          have cX_2 := KX.out.cell 2
          have cX_3 := KX.out.cell 3
          have cX_4 := KX.out.cell 4
          simp only [List.getElem?_toArray, List.getElem?_cons_succ, List.getElem?_cons_zero] at cX_0 cX_1 cX_2 cX_3 cX_4
          have c2_0 := K2.out.cell 0
          have c2_1 := K2.out.cell 1
          have c2_2 := K2.out.cell 2
          have c2_3 := K2.out.cell 3
          have c2_4 := K2.out.cell 4
          simp only [List.getElem?_toArray, List.getElem?_cons_succ, List.getElem?_cons_zero] at c2_0 c2_1 c2_2 c2_3 c2_4
          have SM := Lib.hid (sameN_any (w := v16) (a := ⟨n1, n2, n3, n4, c⟩) (b := ⟨n1, n2, n3, n4, c⟩) SX.out (HN.out.below D16.out) hlen)
          rw [decide_eq_true (rfl : (⟨n1, n2, n3, n4, c⟩ : Frm.Ntc) = ⟨n1, n2, n3, n4, c⟩)] at SM
          simp only [cellN] at SM
          go_upto_region 19 with (go_at_call 20; (with_reducible refine (SM.out).mono ?_); rintro e v17 ⟨rfl, hb⟩; have D17 := Lib.hid (D16.out.trans (hb.mono D16.out.size)); replace K0 := Lib.hid (K0.out.below hb); replace K1 := Lib.hid (K1.out.below hb); replace K2 := Lib.hid (K2.out.below hb); clear hb)
          clear cX_0 cX_1 cX_2 cX_3 cX_4 c2_0 c2_1 c2_2 c2_3 c2_4
          have c2_0 := K2.out.cell 0
          have c2_1 := K2.out.cell 1
          have c2_2 := K2.out.cell 2
          have c2_3 := K2.out.cell 3
          have c2_4 := K2.out.cell 4
          simp only [List.getElem?_toArray, List.getElem?_cons_succ, List.getElem?_cons_zero] at c2_0 c2_1 c2_2 c2_3 c2_4
          go_wp2_with (first | (go_at_call 12; (with_reducible refine (KI.out _ D17.out).mono ?_); rintro e v18 ⟨rfl, hb⟩; have D18 := Lib.hid (D17.out.trans (hb.mono D17.out.size)); replace K0 := Lib.hid (K0.out.below hb); replace K1 := Lib.hid (K1.out.below hb); replace K2 := Lib.hid (K2.out.below hb); clear c2_0 c2_1 c2_2 c2_3 c2_4; have c2_0 := K2.out.cell 0; have c2_1 := K2.out.cell 1; have c2_2 := K2.out.cell 2; have c2_3 := K2.out.cell 3; have c2_4 := K2.out.cell 4; simp only [List.getElem?_toArray, List.getElem?_cons_succ, List.getElem?_cons_zero] at c2_0 c2_1 c2_2 c2_3 c2_4; clear hb) | (go_at_call 21; (with_reducible refine (VN.out _ D18.out).mono ?_); rintro e v19 ⟨rfl, hb⟩; have D19 := Lib.hid (D18.out.trans (hb.mono D18.out.size)); replace K0 := Lib.hid (K0.out.below hb); replace K1 := Lib.hid (K1.out.below hb); replace K2 := Lib.hid (K2.out.below hb); clear hb))
          go_ret
          exact ⟨rfl, D19.out⟩
set_option maxRecDepth 100000 in
theorem lifted (os : Os) (started : os.Started) (H : Type) (enc : TypeId × Value → H) :
    ReturnsInHanded {} Tryd.checked os 3 .any (fun w args => (Rows.frameBackSpec.pre enc Tryd.prog Tryd.f3 [] false w args ∧ laidMetH Tryd.prog Rows.frameBackRow.laid w) ∧ sizedMet enc Tryd.prog Tryd.f3 (OpenSpec.ofChange Rows.frameBackSpec) false w args)
      (Rows.frameBackSpec.post enc Tryd.prog Tryd.f3 false true false false) := by
  refine returnsInHanded_of_change_and (C := Tryd.checked) (X := fun w _ => laidMetH Tryd.prog Rows.frameBackRow.laid w) (fun _ _ _ hh h => h.of_heap hh) own started (by kernel_rfl) Tryd.func3
    (ChangeSpec.witness_shaped (enc := enc) (C := Tryd.checked) (os := os) (X := fun w _ => laidMetH Tryd.prog Rows.frameBackRow.laid w) false (World.doorLaid Tryd.prog 400 os) #[.agg #[.int .i64 0, .int .i64 0, .int .i64 0, .int .i64 0, .string ByteArray.empty, .string ByteArray.empty, .int .i64 0], .agg #[.int .i64 0, .int .i64 0, .int .i64 0, .int .i64 0, .string ByteArray.empty, .slice none 0 0, .string ByteArray.empty, .bool false], .agg #[.int .i64 0, .int .i64 0, .int .i64 0, .string ByteArray.empty, .slice none 0 0]] 8 rfl (World.shaped_of_RefB (by kernel_rfl) (by kernel_rfl)) (by kernel_rfl) (by kernel_rfl) (by kernel_rfl) (door_met os _)) ?_
  intro W base args ds gs before hval0 hW _ _ hL _
  have hval : ∀ (j : Nat) t v, Tryd.f3.params[j]? = some t → args[j]? = some v → Value.okWide Tryd.prog W .any base t v := hval0
  have hW' := hW
  obtain ⟨p, q, hA0, hV, rfl, hfz, hnd⟩ := hW
  have hA : DataW.TrodAll enc Tryd.prog W 0 (fun _ => true) true Tryd.f3.params.toList args.toList ds p := hA0
  rw [Tryd.params3] at hA hval
  obtain ⟨v0, vs0, d0, ds0, p0, q0, hargs, rfl, rfl, h0, r0⟩ := trodAll_cons hA
  obtain ⟨v1, vs1, d1, ds1, p1, q1, rfl, rfl, rfl, h1, r1⟩ := trodAll_cons r0
  obtain ⟨v2, vs2, d2, ds2, p2, q2, rfl, rfl, rfl, h2, r2⟩ := trodAll_cons r1
  obtain ⟨rfl, rfl, rfl⟩ := trodAll_nil r2
  obtain rfl : args = #[v0, v1, v2] := by cases args; simp_all
  obtain ⟨rfl, rfl⟩ := trodVars_none hV
  simp only [List.append_nil] at hW'
  have hk0 := h0
  have hlt0 : ∀ x ∈ p0, x.block < W.heap.size := fun x hx => hW'.lt x (by simp [hx])
  obtain ⟨m0, S0⟩ := arg_ask (hval 0 23 v0 rfl rfl) h0
  have hk1 := h1
  have hlt1 : ∀ x ∈ p1, x.block < W.heap.size := fun x hx => hW'.lt x (by simp [hx])
  obtain ⟨m1, S1⟩ := arg_rep (hval 1 27 v1 rfl rfl) h1
  have hk2 := h2
  have hlt2 : ∀ x ∈ p2, x.block < W.heap.size := fun x hx => hW'.lt x (by simp [hx])
  obtain ⟨m2, S2⟩ := arg_ntc (hval 2 30 v2 rfl rfl) h2
  have hl : LaidN W := laid_of hL
  clear hA0 hval0
  refine (walk W hl v0 m0 S0 v1 m1 S1 v2 m2 S2).mono fun e W' ⟨he, bel⟩ => ?_
  subst he
  exact ⟨_, rfl, _, _, _, [], _, [], hW', trodAll_mk1 (shut_bool Tryd.underlying4 _), (trodAll_cons_mk (Below.trod laidOut (by kernel_rfl) (of_decide_eq_true (by kernel_rfl)) hk0 bel hlt0) (trodAll_cons_mk (Below.trod laidOut (by kernel_rfl) (of_decide_eq_true (by kernel_rfl)) hk1 bel hlt1) (trodAll_cons_mk (Below.trod laidOut (by kernel_rfl) (of_decide_eq_true (by kernel_rfl)) hk2 bel hlt2) trodAll_mk0))), rfl, bel.frame _, fun h => by cases h⟩
theorem over : Rows.FrameBackSaid :=
  OpenClaim.holds_of_wide 3 Tryd.f3 rfl rfl rfl rfl rfl rfl rfl ⟨rfl, rfl, rfl, rfl, rfl⟩ rfl rfl rfl rfl rfl (by kernel_rfl) Tryd.func3 (by kernel_rfl)
    (of_decide_eq_true (by kernel_rfl)) (by unfold Func.isWrapper; rw [if_neg (by decide +kernel)]; exact ⟨rfl, rfl⟩)
    (fun os started H enc _ => lifted os started H enc)
theorem proved : Rows.FrameBackCardSaid :=
  Claim7.holds_tied_plain_at .later [] [.handle] true Rows.frameBackCard.stood.harness true
    over (fun _ h => by cases h) (by kernel_rfl) (fun _ h => by cases h) frameBack_row_tie rfl ⟨rfl, rfl⟩ (by kernel_rfl) rfl
    (fun f fn hf hfn => by
      obtain rfl : f = 3 := Option.some.inj ((show Tryd.prog.funcNamed "guilloche/guillochelaw16.FrameBack" = some 3 by kernel_rfl).symm.trans hf) |>.symm
      obtain rfl : fn = Tryd.f3 := (Option.some.inj (Tryd.func3.symm.trans hfn)).symm
      exact ⟨by kernel_rfl, fun j t ht => by
        rw [Tryd.params3] at ht
        have hm : t ∈ [23, 27, 30] := by simpa using Array.mem_of_getElem? ht
        have hall : ([23, 27, 30].all fun u => !Tryd.prog.wantsStandIn u) = true := by kernel_rfl
        exact (show Tryd.prog.wantsStandIn t = false by simpa using List.all_eq_true.1 hall t hm)⟩)
    (by kernel_rfl)
end Go.Proofs.YtlbebdkockejcaaDoor.frameBack

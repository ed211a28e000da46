/-
  PROVED HERE: frames of an ask, of a reply, and of a notice are never the same; those of two asks are the same just if they are (of what is not short the law asks nothing). What errors.errorType holds is as the program lays it (tied).
-/
import Derived.Test.YtlbebdkockejcaaDoorFrmWorks
import Derived.Test.YtlbebdkockejcaaDoorFrmArgs
import Derived.Test.YtlbebdkockejcaaDoorFrmLaid
import Derived.Test.YtlbebdkockejcaaDoorFrmFew
import Derived.Test.YtlbebdkockejcaaDoorCards
import Derived.Test.YtlbebdkockejcaaDoorTie
import Derived.WalkKit
import Derived.ProofKit
import Derived.LaidMore
import Derived.OpenShut
import Derived.ShutString
import Derived.ChangeOld
import Derived.Below
import Derived.Stop.Joined
import Derived.SevenTiedAt
namespace Go.Proofs.YtlbebdkockejcaaDoor.frameApart
open Go.ChangeShapes Go.WideShapes Go.ChangeAt Go.RowKit Go.Proofs.Mdl
open Go.ChangeMaps (open_string shut_string)
set_option linter.unusedVariables false
set_option linter.unusedSimpArgs false
set_option maxRecDepth 100000 in
set_option maxHeartbeats 32000000 in
theorem walk (w : World) (hl : LaidN w) (v0 : Value) (m0 : Frm.Ask) (S0 : AskV w v0 m0) (v1 : Value) (m1 : Frm.Ask) (S1 : AskV w v1 m1) (v2 : Value) (m2 : Frm.Rep) (S2 : RepV w v2 m2) (v3 : Value) (m3 : Frm.Ntc) (S3 : NtcV w v3 m3) :
    Calls Tryd.prog 7 #[v0, v1, v2, v3] w fun e w' => e = .returned (.bool true) ∧ Below w.heap.size w w' := by
  have HL := Lib.hid hl
  obtain ⟨y1, y2, y3, y4, y5, y6, y7⟩ := m0
  obtain ⟨z1, z2, z3, z4, z5, z6, z7⟩ := m1
  obtain ⟨r1, r2, r3, r4, r5, l, r7, r8⟩ := m2
  obtain ⟨n1, n2, n3, n4, c⟩ := m3
  obtain rfl := S0
  obtain rfl := S1
  obtain ⟨vr, rfl, hr⟩ := S2
  obtain ⟨vn, rfl, hn⟩ := S3
  simp only at hr hn
  obtain ⟨A1, c1, rfl⟩ := hr.shape
  obtain ⟨A2, c2, rfl⟩ := hn.shape
  have PA := Lib.hid (fun W => putAsk_any ⟨y1, y2, y3, y4, y5, y6, y7⟩ W)
  have PB := Lib.hid (fun W => putAsk_any ⟨z1, z2, z3, z4, z5, z6, z7⟩ W)
  have PR := Lib.hid (fun W (hW : Below w.heap.size w W) => putReply_any (w := W) (r := ⟨r1, r2, r3, r4, r5, l, r7, r8⟩) (hr.below hW))
  have PN := Lib.hid (fun W (hW : Below w.heap.size w W) => putNotice_any (w := W) (r := ⟨n1, n2, n3, n4, c⟩) (hn.below hW))
  have FE := Lib.hid (fun W (hW : Below w.heap.size w W) => ffew_any (w := W) (r := ⟨r1, r2, r3, r4, r5, l, r7, r8⟩) (n := ⟨n1, n2, n3, n4, c⟩) (hr.below hW) (hn.below hW))
  obtain ⟨w0, b0, b1, b2, b3, hw, e_0, e_1, e_2, e_3, hb0, k0, k1, k2, k3, hz⟩ := boxes4 w 23 23 27 30 #[.int .i64 y1, .int .i64 y2, .int .i64 y3, .int .i64 y4, .string y5, .string y6, .int .i64 y7] #[.int .i64 z1, .int .i64 z2, .int .i64 z3, .int .i64 z4, .string z5, .string z6, .int .i64 z7] #[.int .i64 r1, .int .i64 r2, .int .i64 r3, .int .i64 r4, .string r5, .slice A1 l.length c1, .string r7, .bool r8] #[.int .i64 n1, .int .i64 n2, .int .i64 n3, .string n4, .slice A2 c.length c2]
  have WK := Lib.hid (fworks_any w0 (hl.on hb0 (Nat.le_refl _)))
  have B0 := Lib.hid hb0
  have K0 := Lib.hid k0
  have K1 := Lib.hid k1
  have K2 := Lib.hid k2
  have K3 := Lib.hid k3
  rcases ha : Frm.validA ⟨y1, y2, y3, y4, y5, y6, y7⟩ with _ | _
  · rw [ha] at PA
    simp only [Bool.false_eq_true, if_false] at PA
    obtain ⟨SB, hSB⟩ : ∃ q, q = (if Frm.validA ⟨z1, z2, z3, z4, z5, z6, z7⟩ then Frm.putA ⟨z1, z2, z3, z4, z5, z6, z7⟩ else Frm.z0) := ⟨_, rfl⟩
    obtain ⟨eb, heb⟩ : ∃ q : Int, q = (if Frm.validA ⟨z1, z2, z3, z4, z5, z6, z7⟩ then 0 else 1) := ⟨_, rfl⟩
    rw [← hSB, ← heb] at PB
    obtain ⟨SR, hSR⟩ : ∃ q, q = (if Frm.validR ⟨r1, r2, r3, r4, r5, l, r7, r8⟩ then Frm.putR ⟨r1, r2, r3, r4, r5, l, r7, r8⟩ else Frm.z0) := ⟨_, rfl⟩
    obtain ⟨er, her⟩ : ∃ q : Int, q = (if Frm.validR ⟨r1, r2, r3, r4, r5, l, r7, r8⟩ then 0 else 1) := ⟨_, rfl⟩
    rw [← hSR, ← her] at PR
    obtain ⟨SN, hSN⟩ : ∃ q, q = (if Frm.validN ⟨n1, n2, n3, n4, c⟩ then Frm.putN ⟨n1, n2, n3, n4, c⟩ else Frm.z0) := ⟨_, rfl⟩
    obtain ⟨en, hen⟩ : ∃ q : Int, q = (if Frm.validN ⟨n1, n2, n3, n4, c⟩ then 0 else 1) := ⟨_, rfl⟩
    rw [← hSN, ← hen] at PN
    clear hSB heb hSR her hSN hen
    simp only [cellA] at PA PB
    simp only [Go.Proofs.YtlbebdkockejcaaDoor.cellR] at PR FE
    simp only [cellN] at PN FE
    unfold cellA cellN Go.Proofs.YtlbebdkockejcaaDoor.cellR
    clear hl hb0 k0 k1 k2 k3 hz hr hn HL
    go_enter Tryd.func7, Tryd.ntmps7
    go_upto_region 1 with (fail)
    rw [← hw, ← e_3, ← e_2, ← e_1, ← e_0]
    clear hw e_3 e_2 e_1 e_0
    go_upto_region 4 with (go_at_call 8; refine WK.out.mono ?_; rintro e w1 ⟨rfl, hb⟩; have B1 := Lib.hid (B0.out.trans (hb.mono B0.out.size)); replace K0 := Lib.hid (K0.out.below hb); replace K1 := Lib.hid (K1.out.below hb); replace K2 := Lib.hid (K2.out.below hb); replace K3 := Lib.hid (K3.out.below hb); clear hb)
    have c2_0 := K2.out.cell 0
    have c2_1 := K2.out.cell 1
    have c2_2 := K2.out.cell 2
    have c2_3 := K2.out.cell 3
    have c2_4 := K2.out.cell 4
    have c2_5 := K2.out.cell 5
    have c2_6 := K2.out.cell 6
    have c2_7 := K2.out.cell 7
    have c3_0 := K3.out.cell 0
    have c3_1 := K3.out.cell 1
    have c3_2 := K3.out.cell 2
    have c3_3 := K3.out.cell 3
    have c3_4 := K3.out.cell 4
    simp only [List.getElem?_toArray, List.getElem?_cons_succ, List.getElem?_cons_zero] at c2_0 c2_1 c2_2 c2_3 c2_4 c2_5 c2_6 c2_7 c3_0 c3_1 c3_2 c3_3 c3_4
    go_upto_region 5 with (go_at_call 9; refine (FE.out _ B1.out).mono ?_; rintro e w2 hf; obtain ⟨bf, rfl, hb⟩ := hf.out; have B2 := Lib.hid (B1.out.trans (hb.mono B1.out.size)); replace K0 := Lib.hid (K0.out.below hb); replace K1 := Lib.hid (K1.out.below hb); replace K2 := Lib.hid (K2.out.below hb); replace K3 := Lib.hid (K3.out.below hb); clear hb hf)
    clear c2_0 c2_1 c2_2 c2_3 c2_4 c2_5 c2_6 c2_7 c3_0 c3_1 c3_2 c3_3 c3_4
    have c0_0 := K0.out.cell 0
    have c0_1 := K0.out.cell 1
    have c0_2 := K0.out.cell 2
    have c0_3 := K0.out.cell 3
    have c0_4 := K0.out.cell 4
    have c0_5 := K0.out.cell 5
    have c0_6 := K0.out.cell 6
    have c1_0 := K1.out.cell 0
    have c1_1 := K1.out.cell 1
    have c1_2 := K1.out.cell 2
    have c1_3 := K1.out.cell 3
    have c1_4 := K1.out.cell 4
    have c1_5 := K1.out.cell 5
    have c1_6 := K1.out.cell 6
    simp only [List.getElem?_toArray, List.getElem?_cons_succ, List.getElem?_cons_zero] at c0_0 c0_1 c0_2 c0_3 c0_4 c0_5 c0_6 c1_0 c1_1 c1_2 c1_3 c1_4 c1_5 c1_6
    go_wp2_with (first
      | (go_at_call 10; (with_reducible refine (PA.out _).mono ?_); rintro e w3 ⟨rfl, hb⟩; have B3 := Lib.hid (B2.out.trans (hb.mono B2.out.size)); replace K0 := Lib.hid (K0.out.below hb); replace K1 := Lib.hid (K1.out.below hb); replace K2 := Lib.hid (K2.out.below hb); replace K3 := Lib.hid (K3.out.below hb); clear hb; clear PA; have c1_0 := K1.out.cell 0; have c1_1 := K1.out.cell 1; have c1_2 := K1.out.cell 2; have c1_3 := K1.out.cell 3; have c1_4 := K1.out.cell 4; have c1_5 := K1.out.cell 5; have c1_6 := K1.out.cell 6; simp only [List.getElem?_toArray, List.getElem?_cons_succ, List.getElem?_cons_zero] at c1_0 c1_1 c1_2 c1_3 c1_4 c1_5 c1_6)
      | (go_at_call 10; (with_reducible refine (PB.out _).mono ?_); rintro e w4 ⟨rfl, hb⟩; have B4 := Lib.hid (B3.out.trans (hb.mono B3.out.size)); replace K0 := Lib.hid (K0.out.below hb); replace K1 := Lib.hid (K1.out.below hb); replace K2 := Lib.hid (K2.out.below hb); replace K3 := Lib.hid (K3.out.below hb); clear hb; clear PB; have c2_0 := K2.out.cell 0; have c2_1 := K2.out.cell 1; have c2_2 := K2.out.cell 2; have c2_3 := K2.out.cell 3; have c2_4 := K2.out.cell 4; have c2_5 := K2.out.cell 5; have c2_6 := K2.out.cell 6; have c2_7 := K2.out.cell 7; simp only [List.getElem?_toArray, List.getElem?_cons_succ, List.getElem?_cons_zero] at c2_0 c2_1 c2_2 c2_3 c2_4 c2_5 c2_6 c2_7)
      | (go_at_call 14; refine (PR.out _ B4.out).mono ?_; rintro e w5 ⟨rfl, hb⟩; have B5 := Lib.hid (B4.out.trans (hb.mono B4.out.size)); replace K0 := Lib.hid (K0.out.below hb); replace K1 := Lib.hid (K1.out.below hb); replace K2 := Lib.hid (K2.out.below hb); replace K3 := Lib.hid (K3.out.below hb); clear hb; have c3_0 := K3.out.cell 0; have c3_1 := K3.out.cell 1; have c3_2 := K3.out.cell 2; have c3_3 := K3.out.cell 3; have c3_4 := K3.out.cell 4; simp only [List.getElem?_toArray, List.getElem?_cons_succ, List.getElem?_cons_zero] at c3_0 c3_1 c3_2 c3_3 c3_4)
      | (go_at_call 18; refine (PN.out _ B5.out).mono ?_; rintro e w6 ⟨rfl, hb⟩; have B6 := Lib.hid (B5.out.trans (hb.mono B5.out.size)); replace K0 := Lib.hid (K0.out.below hb); replace K1 := Lib.hid (K1.out.below hb); replace K2 := Lib.hid (K2.out.below hb); replace K3 := Lib.hid (K3.out.below hb); clear hb; have c0_0 := K0.out.cell 0; have c0_1 := K0.out.cell 1; have c0_2 := K0.out.cell 2; have c0_3 := K0.out.cell 3; have c0_4 := K0.out.cell 4; have c0_5 := K0.out.cell 5; have c0_6 := K0.out.cell 6; have c1_0 := K1.out.cell 0; have c1_1 := K1.out.cell 1; have c1_2 := K1.out.cell 2; have c1_3 := K1.out.cell 3; have c1_4 := K1.out.cell 4; have c1_5 := K1.out.cell 5; have c1_6 := K1.out.cell 6; simp only [List.getElem?_toArray, List.getElem?_cons_succ, List.getElem?_cons_zero] at c0_0 c0_1 c0_2 c0_3 c0_4 c0_5 c0_6 c1_0 c1_1 c1_2 c1_3 c1_4 c1_5 c1_6))
    all_goals go_ret
    all_goals first
      | exact ⟨rfl, B6.out⟩
      | exact ⟨rfl, B2.out⟩
  · rcases hb : Frm.validA ⟨z1, z2, z3, z4, z5, z6, z7⟩ with _ | _
    · rw [ha] at PA
      simp only [if_true] at PA
      obtain ⟨SA, hSA⟩ : ∃ q, q = Frm.putA ⟨y1, y2, y3, y4, y5, y6, y7⟩ := ⟨_, rfl⟩
      rw [← hSA] at PA
      rw [hb] at PB
      simp only [Bool.false_eq_true, if_false] at PB
      obtain ⟨SR, hSR⟩ : ∃ q, q = (if Frm.validR ⟨r1, r2, r3, r4, r5, l, r7, r8⟩ then Frm.putR ⟨r1, r2, r3, r4, r5, l, r7, r8⟩ else Frm.z0) := ⟨_, rfl⟩
      obtain ⟨er, her⟩ : ∃ q : Int, q = (if Frm.validR ⟨r1, r2, r3, r4, r5, l, r7, r8⟩ then 0 else 1) := ⟨_, rfl⟩
      rw [← hSR, ← her] at PR
      obtain ⟨SN, hSN⟩ : ∃ q, q = (if Frm.validN ⟨n1, n2, n3, n4, c⟩ then Frm.putN ⟨n1, n2, n3, n4, c⟩ else Frm.z0) := ⟨_, rfl⟩
      obtain ⟨en, hen⟩ : ∃ q : Int, q = (if Frm.validN ⟨n1, n2, n3, n4, c⟩ then 0 else 1) := ⟨_, rfl⟩
      rw [← hSN, ← hen] at PN
      clear hSA hSR her hSN hen
      simp only [cellA] at PA PB
      simp only [Go.Proofs.YtlbebdkockejcaaDoor.cellR] at PR FE
      simp only [cellN] at PN FE
      unfold cellA cellN Go.Proofs.YtlbebdkockejcaaDoor.cellR
      clear hl hb0 k0 k1 k2 k3 hz hr hn HL
      go_enter Tryd.func7, Tryd.ntmps7
      go_upto_region 1 with (fail)
      rw [← hw, ← e_3, ← e_2, ← e_1, ← e_0]
      clear hw e_3 e_2 e_1 e_0
      go_upto_region 4 with (go_at_call 8; refine WK.out.mono ?_; rintro e w1 ⟨rfl, hb⟩; have B1 := Lib.hid (B0.out.trans (hb.mono B0.out.size)); replace K0 := Lib.hid (K0.out.below hb); replace K1 := Lib.hid (K1.out.below hb); replace K2 := Lib.hid (K2.out.below hb); replace K3 := Lib.hid (K3.out.below hb); clear hb)
      have c2_0 := K2.out.cell 0
      have c2_1 := K2.out.cell 1
      have c2_2 := K2.out.cell 2
      have c2_3 := K2.out.cell 3
      have c2_4 := K2.out.cell 4
      have c2_5 := K2.out.cell 5
      have c2_6 := K2.out.cell 6
      have c2_7 := K2.out.cell 7
      have c3_0 := K3.out.cell 0
      have c3_1 := K3.out.cell 1
      have c3_2 := K3.out.cell 2
      have c3_3 := K3.out.cell 3
      have c3_4 := K3.out.cell 4
      simp only [List.getElem?_toArray, List.getElem?_cons_succ, List.getElem?_cons_zero] at c2_0 c2_1 c2_2 c2_3 c2_4 c2_5 c2_6 c2_7 c3_0 c3_1 c3_2 c3_3 c3_4
      go_upto_region 5 with (go_at_call 9; refine (FE.out _ B1.out).mono ?_; rintro e w2 hf; obtain ⟨bf, rfl, hb⟩ := hf.out; have B2 := Lib.hid (B1.out.trans (hb.mono B1.out.size)); replace K0 := Lib.hid (K0.out.below hb); replace K1 := Lib.hid (K1.out.below hb); replace K2 := Lib.hid (K2.out.below hb); replace K3 := Lib.hid (K3.out.below hb); clear hb hf)
      clear c2_0 c2_1 c2_2 c2_3 c2_4 c2_5 c2_6 c2_7 c3_0 c3_1 c3_2 c3_3 c3_4
      have c0_0 := K0.out.cell 0
      have c0_1 := K0.out.cell 1
      have c0_2 := K0.out.cell 2
      have c0_3 := K0.out.cell 3
      have c0_4 := K0.out.cell 4
      have c0_5 := K0.out.cell 5
      have c0_6 := K0.out.cell 6
      have c1_0 := K1.out.cell 0
      have c1_1 := K1.out.cell 1
      have c1_2 := K1.out.cell 2
      have c1_3 := K1.out.cell 3
      have c1_4 := K1.out.cell 4
      have c1_5 := K1.out.cell 5
      have c1_6 := K1.out.cell 6
      simp only [List.getElem?_toArray, List.getElem?_cons_succ, List.getElem?_cons_zero] at c0_0 c0_1 c0_2 c0_3 c0_4 c0_5 c0_6 c1_0 c1_1 c1_2 c1_3 c1_4 c1_5 c1_6
      go_wp2_with (first
        | (go_at_call 10; (with_reducible refine (PA.out _).mono ?_); rintro e w3 ⟨rfl, hb⟩; have B3 := Lib.hid (B2.out.trans (hb.mono B2.out.size)); replace K0 := Lib.hid (K0.out.below hb); replace K1 := Lib.hid (K1.out.below hb); replace K2 := Lib.hid (K2.out.below hb); replace K3 := Lib.hid (K3.out.below hb); clear hb; clear PA; have c1_0 := K1.out.cell 0; have c1_1 := K1.out.cell 1; have c1_2 := K1.out.cell 2; have c1_3 := K1.out.cell 3; have c1_4 := K1.out.cell 4; have c1_5 := K1.out.cell 5; have c1_6 := K1.out.cell 6; simp only [List.getElem?_toArray, List.getElem?_cons_succ, List.getElem?_cons_zero] at c1_0 c1_1 c1_2 c1_3 c1_4 c1_5 c1_6)
        | (go_at_call 10; (with_reducible refine (PB.out _).mono ?_); rintro e w4 ⟨rfl, hb⟩; have B4 := Lib.hid (B3.out.trans (hb.mono B3.out.size)); replace K0 := Lib.hid (K0.out.below hb); replace K1 := Lib.hid (K1.out.below hb); replace K2 := Lib.hid (K2.out.below hb); replace K3 := Lib.hid (K3.out.below hb); clear hb; clear PB; have c2_0 := K2.out.cell 0; have c2_1 := K2.out.cell 1; have c2_2 := K2.out.cell 2; have c2_3 := K2.out.cell 3; have c2_4 := K2.out.cell 4; have c2_5 := K2.out.cell 5; have c2_6 := K2.out.cell 6; have c2_7 := K2.out.cell 7; simp only [List.getElem?_toArray, List.getElem?_cons_succ, List.getElem?_cons_zero] at c2_0 c2_1 c2_2 c2_3 c2_4 c2_5 c2_6 c2_7)
        | (go_at_call 14; refine (PR.out _ B4.out).mono ?_; rintro e w5 ⟨rfl, hb⟩; have B5 := Lib.hid (B4.out.trans (hb.mono B4.out.size)); replace K0 := Lib.hid (K0.out.below hb); replace K1 := Lib.hid (K1.out.below hb); replace K2 := Lib.hid (K2.out.below hb); replace K3 := Lib.hid (K3.out.below hb); clear hb; have c3_0 := K3.out.cell 0; have c3_1 := K3.out.cell 1; have c3_2 := K3.out.cell 2; have c3_3 := K3.out.cell 3; have c3_4 := K3.out.cell 4; simp only [List.getElem?_toArray, List.getElem?_cons_succ, List.getElem?_cons_zero] at c3_0 c3_1 c3_2 c3_3 c3_4)
        | (go_at_call 18; refine (PN.out _ B5.out).mono ?_; rintro e w6 ⟨rfl, hb⟩; have B6 := Lib.hid (B5.out.trans (hb.mono B5.out.size)); replace K0 := Lib.hid (K0.out.below hb); replace K1 := Lib.hid (K1.out.below hb); replace K2 := Lib.hid (K2.out.below hb); replace K3 := Lib.hid (K3.out.below hb); clear hb; have c0_0 := K0.out.cell 0; have c0_1 := K0.out.cell 1; have c0_2 := K0.out.cell 2; have c0_3 := K0.out.cell 3; have c0_4 := K0.out.cell 4; have c0_5 := K0.out.cell 5; have c0_6 := K0.out.cell 6; have c1_0 := K1.out.cell 0; have c1_1 := K1.out.cell 1; have c1_2 := K1.out.cell 2; have c1_3 := K1.out.cell 3; have c1_4 := K1.out.cell 4; have c1_5 := K1.out.cell 5; have c1_6 := K1.out.cell 6; simp only [List.getElem?_toArray, List.getElem?_cons_succ, List.getElem?_cons_zero] at c0_0 c0_1 c0_2 c0_3 c0_4 c0_5 c0_6 c1_0 c1_1 c1_2 c1_3 c1_4 c1_5 c1_6))
      all_goals go_ret
      all_goals first
        | exact ⟨rfl, B6.out⟩
        | exact ⟨rfl, B2.out⟩
    · rcases hr_ : Frm.validR ⟨r1, r2, r3, r4, r5, l, r7, r8⟩ with _ | _
      · rw [ha] at PA
        simp only [if_true] at PA
        obtain ⟨SA, hSA⟩ : ∃ q, q = Frm.putA ⟨y1, y2, y3, y4, y5, y6, y7⟩ := ⟨_, rfl⟩
        rw [← hSA] at PA
        rw [hb] at PB
        simp only [if_true] at PB
        obtain ⟨SB, hSB⟩ : ∃ q, q = Frm.putA ⟨z1, z2, z3, z4, z5, z6, z7⟩ := ⟨_, rfl⟩
        rw [← hSB] at PB
        rw [hr_] at PR
        simp only [Bool.false_eq_true, if_false] at PR
        obtain ⟨SN, hSN⟩ : ∃ q, q = (if Frm.validN ⟨n1, n2, n3, n4, c⟩ then Frm.putN ⟨n1, n2, n3, n4, c⟩ else Frm.z0) := ⟨_, rfl⟩
        obtain ⟨en, hen⟩ : ∃ q : Int, q = (if Frm.validN ⟨n1, n2, n3, n4, c⟩ then 0 else 1) := ⟨_, rfl⟩
        rw [← hSN, ← hen] at PN
        clear hSA hSB hSN hen
        simp only [cellA] at PA PB
        simp only [Go.Proofs.YtlbebdkockejcaaDoor.cellR] at PR FE
        simp only [cellN] at PN FE
        unfold cellA cellN Go.Proofs.YtlbebdkockejcaaDoor.cellR
        clear hl hb0 k0 k1 k2 k3 hz hr hn HL
        go_enter Tryd.func7, Tryd.ntmps7
        go_upto_region 1 with (fail)
        rw [← hw, ← e_3, ← e_2, ← e_1, ← e_0]
        clear hw e_3 e_2 e_1 e_0
        go_upto_region 4 with (go_at_call 8; refine WK.out.mono ?_; rintro e w1 ⟨rfl, hb⟩; have B1 := Lib.hid (B0.out.trans (hb.mono B0.out.size)); replace K0 := Lib.hid (K0.out.below hb); replace K1 := Lib.hid (K1.out.below hb); replace K2 := Lib.hid (K2.out.below hb); replace K3 := Lib.hid (K3.out.below hb); clear hb)
        have c2_0 := K2.out.cell 0
        have c2_1 := K2.out.cell 1
        have c2_2 := K2.out.cell 2
        have c2_3 := K2.out.cell 3
        have c2_4 := K2.out.cell 4
        have c2_5 := K2.out.cell 5
        have c2_6 := K2.out.cell 6
        have c2_7 := K2.out.cell 7
        have c3_0 := K3.out.cell 0
        have c3_1 := K3.out.cell 1
        have c3_2 := K3.out.cell 2
        have c3_3 := K3.out.cell 3
        have c3_4 := K3.out.cell 4
        simp only [List.getElem?_toArray, List.getElem?_cons_succ, List.getElem?_cons_zero] at c2_0 c2_1 c2_2 c2_3 c2_4 c2_5 c2_6 c2_7 c3_0 c3_1 c3_2 c3_3 c3_4
        go_upto_region 5 with (go_at_call 9; refine (FE.out _ B1.out).mono ?_; rintro e w2 hf; obtain ⟨bf, rfl, hb⟩ := hf.out; have B2 := Lib.hid (B1.out.trans (hb.mono B1.out.size)); replace K0 := Lib.hid (K0.out.below hb); replace K1 := Lib.hid (K1.out.below hb); replace K2 := Lib.hid (K2.out.below hb); replace K3 := Lib.hid (K3.out.below hb); clear hb hf)
        clear c2_0 c2_1 c2_2 c2_3 c2_4 c2_5 c2_6 c2_7 c3_0 c3_1 c3_2 c3_3 c3_4
        have c0_0 := K0.out.cell 0
        have c0_1 := K0.out.cell 1
        have c0_2 := K0.out.cell 2
        have c0_3 := K0.out.cell 3
        have c0_4 := K0.out.cell 4
        have c0_5 := K0.out.cell 5
        have c0_6 := K0.out.cell 6
        have c1_0 := K1.out.cell 0
        have c1_1 := K1.out.cell 1
        have c1_2 := K1.out.cell 2
        have c1_3 := K1.out.cell 3
        have c1_4 := K1.out.cell 4
        have c1_5 := K1.out.cell 5
        have c1_6 := K1.out.cell 6
        simp only [List.getElem?_toArray, List.getElem?_cons_succ, List.getElem?_cons_zero] at c0_0 c0_1 c0_2 c0_3 c0_4 c0_5 c0_6 c1_0 c1_1 c1_2 c1_3 c1_4 c1_5 c1_6
        go_wp2_with (first
          | (go_at_call 10; (with_reducible refine (PA.out _).mono ?_); rintro e w3 ⟨rfl, hb⟩; have B3 := Lib.hid (B2.out.trans (hb.mono B2.out.size)); replace K0 := Lib.hid (K0.out.below hb); replace K1 := Lib.hid (K1.out.below hb); replace K2 := Lib.hid (K2.out.below hb); replace K3 := Lib.hid (K3.out.below hb); clear hb; clear PA; have c1_0 := K1.out.cell 0; have c1_1 := K1.out.cell 1; have c1_2 := K1.out.cell 2; have c1_3 := K1.out.cell 3; have c1_4 := K1.out.cell 4; have c1_5 := K1.out.cell 5; have c1_6 := K1.out.cell 6; simp only [List.getElem?_toArray, List.getElem?_cons_succ, List.getElem?_cons_zero] at c1_0 c1_1 c1_2 c1_3 c1_4 c1_5 c1_6)
          | (go_at_call 10; (with_reducible refine (PB.out _).mono ?_); rintro e w4 ⟨rfl, hb⟩; have B4 := Lib.hid (B3.out.trans (hb.mono B3.out.size)); replace K0 := Lib.hid (K0.out.below hb); replace K1 := Lib.hid (K1.out.below hb); replace K2 := Lib.hid (K2.out.below hb); replace K3 := Lib.hid (K3.out.below hb); clear hb; clear PB; have c2_0 := K2.out.cell 0; have c2_1 := K2.out.cell 1; have c2_2 := K2.out.cell 2; have c2_3 := K2.out.cell 3; have c2_4 := K2.out.cell 4; have c2_5 := K2.out.cell 5; have c2_6 := K2.out.cell 6; have c2_7 := K2.out.cell 7; simp only [List.getElem?_toArray, List.getElem?_cons_succ, List.getElem?_cons_zero] at c2_0 c2_1 c2_2 c2_3 c2_4 c2_5 c2_6 c2_7)
          | (go_at_call 14; refine (PR.out _ B4.out).mono ?_; rintro e w5 ⟨rfl, hb⟩; have B5 := Lib.hid (B4.out.trans (hb.mono B4.out.size)); replace K0 := Lib.hid (K0.out.below hb); replace K1 := Lib.hid (K1.out.below hb); replace K2 := Lib.hid (K2.out.below hb); replace K3 := Lib.hid (K3.out.below hb); clear hb; have c3_0 := K3.out.cell 0; have c3_1 := K3.out.cell 1; have c3_2 := K3.out.cell 2; have c3_3 := K3.out.cell 3; have c3_4 := K3.out.cell 4; simp only [List.getElem?_toArray, List.getElem?_cons_succ, List.getElem?_cons_zero] at c3_0 c3_1 c3_2 c3_3 c3_4)
          | (go_at_call 18; refine (PN.out _ B5.out).mono ?_; rintro e w6 ⟨rfl, hb⟩; have B6 := Lib.hid (B5.out.trans (hb.mono B5.out.size)); replace K0 := Lib.hid (K0.out.below hb); replace K1 := Lib.hid (K1.out.below hb); replace K2 := Lib.hid (K2.out.below hb); replace K3 := Lib.hid (K3.out.below hb); clear hb; have c0_0 := K0.out.cell 0; have c0_1 := K0.out.cell 1; have c0_2 := K0.out.cell 2; have c0_3 := K0.out.cell 3; have c0_4 := K0.out.cell 4; have c0_5 := K0.out.cell 5; have c0_6 := K0.out.cell 6; have c1_0 := K1.out.cell 0; have c1_1 := K1.out.cell 1; have c1_2 := K1.out.cell 2; have c1_3 := K1.out.cell 3; have c1_4 := K1.out.cell 4; have c1_5 := K1.out.cell 5; have c1_6 := K1.out.cell 6; simp only [List.getElem?_toArray, List.getElem?_cons_succ, List.getElem?_cons_zero] at c0_0 c0_1 c0_2 c0_3 c0_4 c0_5 c0_6 c1_0 c1_1 c1_2 c1_3 c1_4 c1_5 c1_6))
        all_goals go_ret
        all_goals first
          | exact ⟨rfl, B6.out⟩
          | exact ⟨rfl, B2.out⟩
      · rcases hn_ : Frm.validN ⟨n1, n2, n3, n4, c⟩ with _ | _
        · rw [ha] at PA
          simp only [if_true] at PA
          obtain ⟨SA, hSA⟩ : ∃ q, q = Frm.putA ⟨y1, y2, y3, y4, y5, y6, y7⟩ := ⟨_, rfl⟩
          rw [← hSA] at PA
          rw [hb] at PB
          simp only [if_true] at PB
          obtain ⟨SB, hSB⟩ : ∃ q, q = Frm.putA ⟨z1, z2, z3, z4, z5, z6, z7⟩ := ⟨_, rfl⟩
          rw [← hSB] at PB
          rw [hr_] at PR
          simp only [if_true] at PR
          obtain ⟨SR, hSR⟩ : ∃ q, q = Frm.putR ⟨r1, r2, r3, r4, r5, l, r7, r8⟩ := ⟨_, rfl⟩
          rw [← hSR] at PR
          rw [hn_] at PN
          simp only [Bool.false_eq_true, if_false] at PN
          clear hSA hSB hSR
          simp only [cellA] at PA PB
          simp only [Go.Proofs.YtlbebdkockejcaaDoor.cellR] at PR FE
          simp only [cellN] at PN FE
          unfold cellA cellN Go.Proofs.YtlbebdkockejcaaDoor.cellR
          clear hl hb0 k0 k1 k2 k3 hz hr hn HL
          go_enter Tryd.func7, Tryd.ntmps7
          go_upto_region 1 with (fail)
          rw [← hw, ← e_3, ← e_2, ← e_1, ← e_0]
          clear hw e_3 e_2 e_1 e_0
          go_upto_region 4 with (go_at_call 8; refine WK.out.mono ?_; rintro e w1 ⟨rfl, hb⟩; have B1 := Lib.hid (B0.out.trans (hb.mono B0.out.size)); replace K0 := Lib.hid (K0.out.below hb); replace K1 := Lib.hid (K1.out.below hb); replace K2 := Lib.hid (K2.out.below hb); replace K3 := Lib.hid (K3.out.below hb); clear hb)
          have c2_0 := K2.out.cell 0
          have c2_1 := K2.out.cell 1
          have c2_2 := K2.out.cell 2
          have c2_3 := K2.out.cell 3
          have c2_4 := K2.out.cell 4
          have c2_5 := K2.out.cell 5
          have c2_6 := K2.out.cell 6
          have c2_7 := K2.out.cell 7
          have c3_0 := K3.out.cell 0
          have c3_1 := K3.out.cell 1
          have c3_2 := K3.out.cell 2
          have c3_3 := K3.out.cell 3
          have c3_4 := K3.out.cell 4
          simp only [List.getElem?_toArray, List.getElem?_cons_succ, List.getElem?_cons_zero] at c2_0 c2_1 c2_2 c2_3 c2_4 c2_5 c2_6 c2_7 c3_0 c3_1 c3_2 c3_3 c3_4
          go_upto_region 5 with (go_at_call 9; refine (FE.out _ B1.out).mono ?_; rintro e w2 hf; obtain ⟨bf, rfl, hb⟩ := hf.out; have B2 := Lib.hid (B1.out.trans (hb.mono B1.out.size)); replace K0 := Lib.hid (K0.out.below hb); replace K1 := Lib.hid (K1.out.below hb); replace K2 := Lib.hid (K2.out.below hb); replace K3 := Lib.hid (K3.out.below hb); clear hb hf)
          clear c2_0 c2_1 c2_2 c2_3 c2_4 c2_5 c2_6 c2_7 c3_0 c3_1 c3_2 c3_3 c3_4
          have c0_0 := K0.out.cell 0
          have c0_1 := K0.out.cell 1
          have c0_2 := K0.out.cell 2
          have c0_3 := K0.out.cell 3
          have c0_4 := K0.out.cell 4
          have c0_5 := K0.out.cell 5
          have c0_6 := K0.out.cell 6
          have c1_0 := K1.out.cell 0
          have c1_1 := K1.out.cell 1
          have c1_2 := K1.out.cell 2
          have c1_3 := K1.out.cell 3
          have c1_4 := K1.out.cell 4
          have c1_5 := K1.out.cell 5
          have c1_6 := K1.out.cell 6
          simp only [List.getElem?_toArray, List.getElem?_cons_succ, List.getElem?_cons_zero] at c0_0 c0_1 c0_2 c0_3 c0_4 c0_5 c0_6 c1_0 c1_1 c1_2 c1_3 c1_4 c1_5 c1_6
          go_wp2_with (first
            | (go_at_call 10; (with_reducible refine (PA.out _).mono ?_); rintro e w3 ⟨rfl, hb⟩; have B3 := Lib.hid (B2.out.trans (hb.mono B2.out.size)); replace K0 := Lib.hid (K0.out.below hb); replace K1 := Lib.hid (K1.out.below hb); replace K2 := Lib.hid (K2.out.below hb); replace K3 := Lib.hid (K3.out.below hb); clear hb; clear PA; have c1_0 := K1.out.cell 0; have c1_1 := K1.out.cell 1; have c1_2 := K1.out.cell 2; have c1_3 := K1.out.cell 3; have c1_4 := K1.out.cell 4; have c1_5 := K1.out.cell 5; have c1_6 := K1.out.cell 6; simp only [List.getElem?_toArray, List.getElem?_cons_succ, List.getElem?_cons_zero] at c1_0 c1_1 c1_2 c1_3 c1_4 c1_5 c1_6)
            | (go_at_call 10; (with_reducible refine (PB.out _).mono ?_); rintro e w4 ⟨rfl, hb⟩; have B4 := Lib.hid (B3.out.trans (hb.mono B3.out.size)); replace K0 := Lib.hid (K0.out.below hb); replace K1 := Lib.hid (K1.out.below hb); replace K2 := Lib.hid (K2.out.below hb); replace K3 := Lib.hid (K3.out.below hb); clear hb; clear PB; have c2_0 := K2.out.cell 0; have c2_1 := K2.out.cell 1; have c2_2 := K2.out.cell 2; have c2_3 := K2.out.cell 3; have c2_4 := K2.out.cell 4; have c2_5 := K2.out.cell 5; have c2_6 := K2.out.cell 6; have c2_7 := K2.out.cell 7; simp only [List.getElem?_toArray, List.getElem?_cons_succ, List.getElem?_cons_zero] at c2_0 c2_1 c2_2 c2_3 c2_4 c2_5 c2_6 c2_7)
            | (go_at_call 14; refine (PR.out _ B4.out).mono ?_; rintro e w5 ⟨rfl, hb⟩; have B5 := Lib.hid (B4.out.trans (hb.mono B4.out.size)); replace K0 := Lib.hid (K0.out.below hb); replace K1 := Lib.hid (K1.out.below hb); replace K2 := Lib.hid (K2.out.below hb); replace K3 := Lib.hid (K3.out.below hb); clear hb; have c3_0 := K3.out.cell 0; have c3_1 := K3.out.cell 1; have c3_2 := K3.out.cell 2; have c3_3 := K3.out.cell 3; have c3_4 := K3.out.cell 4; simp only [List.getElem?_toArray, List.getElem?_cons_succ, List.getElem?_cons_zero] at c3_0 c3_1 c3_2 c3_3 c3_4)
            | (go_at_call 18; refine (PN.out _ B5.out).mono ?_; rintro e w6 ⟨rfl, hb⟩; have B6 := Lib.hid (B5.out.trans (hb.mono B5.out.size)); replace K0 := Lib.hid (K0.out.below hb); replace K1 := Lib.hid (K1.out.below hb); replace K2 := Lib.hid (K2.out.below hb); replace K3 := Lib.hid (K3.out.below hb); clear hb; have c0_0 := K0.out.cell 0; have c0_1 := K0.out.cell 1; have c0_2 := K0.out.cell 2; have c0_3 := K0.out.cell 3; have c0_4 := K0.out.cell 4; have c0_5 := K0.out.cell 5; have c0_6 := K0.out.cell 6; have c1_0 := K1.out.cell 0; have c1_1 := K1.out.cell 1; have c1_2 := K1.out.cell 2; have c1_3 := K1.out.cell 3; have c1_4 := K1.out.cell 4; have c1_5 := K1.out.cell 5; have c1_6 := K1.out.cell 6; simp only [List.getElem?_toArray, List.getElem?_cons_succ, List.getElem?_cons_zero] at c0_0 c0_1 c0_2 c0_3 c0_4 c0_5 c0_6 c1_0 c1_1 c1_2 c1_3 c1_4 c1_5 c1_6))
          all_goals go_ret
          all_goals first
            | exact ⟨rfl, B6.out⟩
            | exact ⟨rfl, B2.out⟩
        · by_cases hab : (⟨y1, y2, y3, y4, y5, y6, y7⟩ : Frm.Ask) = ⟨z1, z2, z3, z4, z5, z6, z7⟩
          · simp only [Frm.Ask.mk.injEq] at hab
            obtain ⟨rfl, rfl, rfl, rfl, rfl, rfl, rfl⟩ := hab
            rw [ha] at PA
            simp only [if_true] at PA
            obtain ⟨SA, hSA⟩ : ∃ q, q = Frm.putA ⟨y1, y2, y3, y4, y5, y6, y7⟩ := ⟨_, rfl⟩
            rw [← hSA] at PA
            rw [hb] at PB
            simp only [if_true] at PB
            rw [← hSA] at PB
            rw [hr_] at PR
            simp only [if_true] at PR
            obtain ⟨SR, hSR⟩ : ∃ q, q = Frm.putR ⟨r1, r2, r3, r4, r5, l, r7, r8⟩ := ⟨_, rfl⟩
            rw [← hSR] at PR
            rw [hn_] at PN
            simp only [if_true] at PN
            obtain ⟨SN, hSN⟩ : ∃ q, q = Frm.putN ⟨n1, n2, n3, n4, c⟩ := ⟨_, rfl⟩
            rw [← hSN] at PN
            have q1 := Frm.putA_ne_putR ha hr_
            have q2 := Frm.putA_ne_putN ha hn_
            have q3 := Frm.putR_ne_putN hr_ hn_
            rw [← hSA, ← hSR] at q1
            rw [← hSA, ← hSN] at q2
            rw [← hSR, ← hSN] at q3
            have t1 : ¬ SA.toList = SR.toList := fun e => q1 (tl_iff.1 e)
            have t2 : ¬ SA.toList = SN.toList := fun e => q2 (tl_iff.1 e)
            have t3 : ¬ SR.toList = SN.toList := fun e => q3 (tl_iff.1 e)
            have u1 : (SA.toList == SR.toList) = false := by simp [t1]
            have u2 : (SA.toList == SN.toList) = false := by simp [t2]
            have u3 : (SR.toList == SN.toList) = false := by simp [t3]
            clear q1 q2 q3
            clear hSA hSR hSN
            simp only [cellA] at PA PB
            simp only [Go.Proofs.YtlbebdkockejcaaDoor.cellR] at PR FE
            simp only [cellN] at PN FE
            unfold cellA cellN Go.Proofs.YtlbebdkockejcaaDoor.cellR
            clear hl hb0 k0 k1 k2 k3 hz hr hn HL
            go_enter Tryd.func7, Tryd.ntmps7
            go_upto_region 1 with (fail)
            rw [← hw, ← e_3, ← e_2, ← e_1, ← e_0]
            clear hw e_3 e_2 e_1 e_0
            go_upto_region 4 with (go_at_call 8; refine WK.out.mono ?_; rintro e w1 ⟨rfl, hb⟩; have B1 := Lib.hid (B0.out.trans (hb.mono B0.out.size)); replace K0 := Lib.hid (K0.out.below hb); replace K1 := Lib.hid (K1.out.below hb); replace K2 := Lib.hid (K2.out.below hb); replace K3 := Lib.hid (K3.out.below hb); clear hb)
            have c2_0 := K2.out.cell 0
            have c2_1 := K2.out.cell 1
            have c2_2 := K2.out.cell 2
            have c2_3 := K2.out.cell 3
            have c2_4 := K2.out.cell 4
            have c2_5 := K2.out.cell 5
            have c2_6 := K2.out.cell 6
            have c2_7 := K2.out.cell 7
            have c3_0 := K3.out.cell 0
            have c3_1 := K3.out.cell 1
            have c3_2 := K3.out.cell 2
            have c3_3 := K3.out.cell 3
            have c3_4 := K3.out.cell 4
            simp only [List.getElem?_toArray, List.getElem?_cons_succ, List.getElem?_cons_zero] at c2_0 c2_1 c2_2 c2_3 c2_4 c2_5 c2_6 c2_7 c3_0 c3_1 c3_2 c3_3 c3_4
            go_upto_region 5 with (go_at_call 9; refine (FE.out _ B1.out).mono ?_; rintro e w2 hf; obtain ⟨bf, rfl, hb⟩ := hf.out; have B2 := Lib.hid (B1.out.trans (hb.mono B1.out.size)); replace K0 := Lib.hid (K0.out.below hb); replace K1 := Lib.hid (K1.out.below hb); replace K2 := Lib.hid (K2.out.below hb); replace K3 := Lib.hid (K3.out.below hb); clear hb hf)
            clear c2_0 c2_1 c2_2 c2_3 c2_4 c2_5 c2_6 c2_7 c3_0 c3_1 c3_2 c3_3 c3_4
            have c0_0 := K0.out.cell 0
            have c0_1 := K0.out.cell 1
            have c0_2 := K0.out.cell 2
            have c0_3 := K0.out.cell 3
            have c0_4 := K0.out.cell 4
            have c0_5 := K0.out.cell 5
            have c0_6 := K0.out.cell 6
            have c1_0 := K1.out.cell 0
            have c1_1 := K1.out.cell 1
            have c1_2 := K1.out.cell 2
            have c1_3 := K1.out.cell 3
            have c1_4 := K1.out.cell 4
            have c1_5 := K1.out.cell 5
            have c1_6 := K1.out.cell 6
            simp only [List.getElem?_toArray, List.getElem?_cons_succ, List.getElem?_cons_zero] at c0_0 c0_1 c0_2 c0_3 c0_4 c0_5 c0_6 c1_0 c1_1 c1_2 c1_3 c1_4 c1_5 c1_6
            go_wp2_with (first
              | (go_at_call 10; (with_reducible refine (PA.out _).mono ?_); rintro e w3 ⟨rfl, hb⟩; have B3 := Lib.hid (B2.out.trans (hb.mono B2.out.size)); replace K0 := Lib.hid (K0.out.below hb); replace K1 := Lib.hid (K1.out.below hb); replace K2 := Lib.hid (K2.out.below hb); replace K3 := Lib.hid (K3.out.below hb); clear hb; clear PA; have c1_0 := K1.out.cell 0; have c1_1 := K1.out.cell 1; have c1_2 := K1.out.cell 2; have c1_3 := K1.out.cell 3; have c1_4 := K1.out.cell 4; have c1_5 := K1.out.cell 5; have c1_6 := K1.out.cell 6; simp only [List.getElem?_toArray, List.getElem?_cons_succ, List.getElem?_cons_zero] at c1_0 c1_1 c1_2 c1_3 c1_4 c1_5 c1_6)
              | (go_at_call 10; (with_reducible refine (PB.out _).mono ?_); rintro e w4 ⟨rfl, hb⟩; have B4 := Lib.hid (B3.out.trans (hb.mono B3.out.size)); replace K0 := Lib.hid (K0.out.below hb); replace K1 := Lib.hid (K1.out.below hb); replace K2 := Lib.hid (K2.out.below hb); replace K3 := Lib.hid (K3.out.below hb); clear hb; clear PB; have c2_0 := K2.out.cell 0; have c2_1 := K2.out.cell 1; have c2_2 := K2.out.cell 2; have c2_3 := K2.out.cell 3; have c2_4 := K2.out.cell 4; have c2_5 := K2.out.cell 5; have c2_6 := K2.out.cell 6; have c2_7 := K2.out.cell 7; simp only [List.getElem?_toArray, List.getElem?_cons_succ, List.getElem?_cons_zero] at c2_0 c2_1 c2_2 c2_3 c2_4 c2_5 c2_6 c2_7)
              | (go_at_call 14; refine (PR.out _ B4.out).mono ?_; rintro e w5 ⟨rfl, hb⟩; have B5 := Lib.hid (B4.out.trans (hb.mono B4.out.size)); replace K0 := Lib.hid (K0.out.below hb); replace K1 := Lib.hid (K1.out.below hb); replace K2 := Lib.hid (K2.out.below hb); replace K3 := Lib.hid (K3.out.below hb); clear hb; have c3_0 := K3.out.cell 0; have c3_1 := K3.out.cell 1; have c3_2 := K3.out.cell 2; have c3_3 := K3.out.cell 3; have c3_4 := K3.out.cell 4; simp only [List.getElem?_toArray, List.getElem?_cons_succ, List.getElem?_cons_zero] at c3_0 c3_1 c3_2 c3_3 c3_4)
              | (go_at_call 18; refine (PN.out _ B5.out).mono ?_; rintro e w6 ⟨rfl, hb⟩; have B6 := Lib.hid (B5.out.trans (hb.mono B5.out.size)); replace K0 := Lib.hid (K0.out.below hb); replace K1 := Lib.hid (K1.out.below hb); replace K2 := Lib.hid (K2.out.below hb); replace K3 := Lib.hid (K3.out.below hb); clear hb; have c0_0 := K0.out.cell 0; have c0_1 := K0.out.cell 1; have c0_2 := K0.out.cell 2; have c0_3 := K0.out.cell 3; have c0_4 := K0.out.cell 4; have c0_5 := K0.out.cell 5; have c0_6 := K0.out.cell 6; have c1_0 := K1.out.cell 0; have c1_1 := K1.out.cell 1; have c1_2 := K1.out.cell 2; have c1_3 := K1.out.cell 3; have c1_4 := K1.out.cell 4; have c1_5 := K1.out.cell 5; have c1_6 := K1.out.cell 6; simp only [List.getElem?_toArray, List.getElem?_cons_succ, List.getElem?_cons_zero] at c0_0 c0_1 c0_2 c0_3 c0_4 c0_5 c0_6 c1_0 c1_1 c1_2 c1_3 c1_4 c1_5 c1_6))
            all_goals go_ret
            all_goals first
              | exact ⟨rfl, B6.out⟩
              | exact ⟨rfl, B2.out⟩
          · rw [ha] at PA
            simp only [if_true] at PA
            obtain ⟨SA, hSA⟩ : ∃ q, q = Frm.putA ⟨y1, y2, y3, y4, y5, y6, y7⟩ := ⟨_, rfl⟩
            rw [← hSA] at PA
            rw [hb] at PB
            simp only [if_true] at PB
            obtain ⟨SB, hSB⟩ : ∃ q, q = Frm.putA ⟨z1, z2, z3, z4, z5, z6, z7⟩ := ⟨_, rfl⟩
            rw [← hSB] at PB
            rw [hr_] at PR
            simp only [if_true] at PR
            obtain ⟨SR, hSR⟩ : ∃ q, q = Frm.putR ⟨r1, r2, r3, r4, r5, l, r7, r8⟩ := ⟨_, rfl⟩
            rw [← hSR] at PR
            rw [hn_] at PN
            simp only [if_true] at PN
            obtain ⟨SN, hSN⟩ : ∃ q, q = Frm.putN ⟨n1, n2, n3, n4, c⟩ := ⟨_, rfl⟩
            rw [← hSN] at PN
            have q1 := Frm.putA_ne_putR ha hr_
            have q2 := Frm.putA_ne_putN ha hn_
            have q3 := Frm.putR_ne_putN hr_ hn_
            rw [← hSA, ← hSR] at q1
            rw [← hSA, ← hSN] at q2
            rw [← hSR, ← hSN] at q3
            have t1 : ¬ SA.toList = SR.toList := fun e => q1 (tl_iff.1 e)
            have t2 : ¬ SA.toList = SN.toList := fun e => q2 (tl_iff.1 e)
            have t3 : ¬ SR.toList = SN.toList := fun e => q3 (tl_iff.1 e)
            have u1 : (SA.toList == SR.toList) = false := by simp [t1]
            have u2 : (SA.toList == SN.toList) = false := by simp [t2]
            have u3 : (SR.toList == SN.toList) = false := by simp [t3]
            have q4 : ¬ SA = SB := fun e => hab (Frm.putA_inj ha hb (by rw [← hSA, ← hSB]; exact e))
            have t4 : ¬ SA.toList = SB.toList := fun e => q4 (tl_iff.1 e)
            have u4 : (SA.toList == SB.toList) = false := by simp [t4]
            clear q1 q2 q3 q4
            clear hSA hSB hSR hSN
            simp only [cellA] at PA PB
            simp only [Go.Proofs.YtlbebdkockejcaaDoor.cellR] at PR FE
            simp only [cellN] at PN FE
            unfold cellA cellN Go.Proofs.YtlbebdkockejcaaDoor.cellR
            clear hl hb0 k0 k1 k2 k3 hz hr hn HL
            go_enter Tryd.func7, Tryd.ntmps7
            go_upto_region 1 with (fail)
            rw [← hw, ← e_3, ← e_2, ← e_1, ← e_0]
            clear hw e_3 e_2 e_1 e_0
            go_upto_region 4 with (go_at_call 8; refine WK.out.mono ?_; rintro e w1 ⟨rfl, hb⟩; have B1 := Lib.hid (B0.out.trans (hb.mono B0.out.size)); replace K0 := Lib.hid (K0.out.below hb); replace K1 := Lib.hid (K1.out.below hb); replace K2 := Lib.hid (K2.out.below hb); replace K3 := Lib.hid (K3.out.below hb); clear hb)
            have c2_0 := K2.out.cell 0
            have c2_1 := K2.out.cell 1
            have c2_2 := K2.out.cell 2
            have c2_3 := K2.out.cell 3
            have c2_4 := K2.out.cell 4
            have c2_5 := K2.out.cell 5
            have c2_6 := K2.out.cell 6
            have c2_7 := K2.out.cell 7
            have c3_0 := K3.out.cell 0
            have c3_1 := K3.out.cell 1
            have c3_2 := K3.out.cell 2
            have c3_3 := K3.out.cell 3
            have c3_4 := K3.out.cell 4
            simp only [List.getElem?_toArray, List.getElem?_cons_succ, List.getElem?_cons_zero] at c2_0 c2_1 c2_2 c2_3 c2_4 c2_5 c2_6 c2_7 c3_0 c3_1 c3_2 c3_3 c3_4
            go_upto_region 5 with (go_at_call 9; refine (FE.out _ B1.out).mono ?_; rintro e w2 hf; obtain ⟨bf, rfl, hb⟩ := hf.out; have B2 := Lib.hid (B1.out.trans (hb.mono B1.out.size)); replace K0 := Lib.hid (K0.out.below hb); replace K1 := Lib.hid (K1.out.below hb); replace K2 := Lib.hid (K2.out.below hb); replace K3 := Lib.hid (K3.out.below hb); clear hb hf)
            clear c2_0 c2_1 c2_2 c2_3 c2_4 c2_5 c2_6 c2_7 c3_0 c3_1 c3_2 c3_3 c3_4
            have c0_0 := K0.out.cell 0
            have c0_1 := K0.out.cell 1
            have c0_2 := K0.out.cell 2
            have c0_3 := K0.out.cell 3
            have c0_4 := K0.out.cell 4
            have c0_5 := K0.out.cell 5
            have c0_6 := K0.out.cell 6
            have c1_0 := K1.out.cell 0
            have c1_1 := K1.out.cell 1
            have c1_2 := K1.out.cell 2
            have c1_3 := K1.out.cell 3
            have c1_4 := K1.out.cell 4
            have c1_5 := K1.out.cell 5
            have c1_6 := K1.out.cell 6
            simp only [List.getElem?_toArray, List.getElem?_cons_succ, List.getElem?_cons_zero] at c0_0 c0_1 c0_2 c0_3 c0_4 c0_5 c0_6 c1_0 c1_1 c1_2 c1_3 c1_4 c1_5 c1_6
            go_wp2_with (first
              | (go_at_call 10; (with_reducible refine (PA.out _).mono ?_); rintro e w3 ⟨rfl, hb⟩; have B3 := Lib.hid (B2.out.trans (hb.mono B2.out.size)); replace K0 := Lib.hid (K0.out.below hb); replace K1 := Lib.hid (K1.out.below hb); replace K2 := Lib.hid (K2.out.below hb); replace K3 := Lib.hid (K3.out.below hb); clear hb; clear PA; have c1_0 := K1.out.cell 0; have c1_1 := K1.out.cell 1; have c1_2 := K1.out.cell 2; have c1_3 := K1.out.cell 3; have c1_4 := K1.out.cell 4; have c1_5 := K1.out.cell 5; have c1_6 := K1.out.cell 6; simp only [List.getElem?_toArray, List.getElem?_cons_succ, List.getElem?_cons_zero] at c1_0 c1_1 c1_2 c1_3 c1_4 c1_5 c1_6)
              | (go_at_call 10; (with_reducible refine (PB.out _).mono ?_); rintro e w4 ⟨rfl, hb⟩; have B4 := Lib.hid (B3.out.trans (hb.mono B3.out.size)); replace K0 := Lib.hid (K0.out.below hb); replace K1 := Lib.hid (K1.out.below hb); replace K2 := Lib.hid (K2.out.below hb); replace K3 := Lib.hid (K3.out.below hb); clear hb; clear PB; have c2_0 := K2.out.cell 0; have c2_1 := K2.out.cell 1; have c2_2 := K2.out.cell 2; have c2_3 := K2.out.cell 3; have c2_4 := K2.out.cell 4; have c2_5 := K2.out.cell 5; have c2_6 := K2.out.cell 6; have c2_7 := K2.out.cell 7; simp only [List.getElem?_toArray, List.getElem?_cons_succ, List.getElem?_cons_zero] at c2_0 c2_1 c2_2 c2_3 c2_4 c2_5 c2_6 c2_7)
              | (go_at_call 14; refine (PR.out _ B4.out).mono ?_; rintro e w5 ⟨rfl, hb⟩; have B5 := Lib.hid (B4.out.trans (hb.mono B4.out.size)); replace K0 := Lib.hid (K0.out.below hb); replace K1 := Lib.hid (K1.out.below hb); replace K2 := Lib.hid (K2.out.below hb); replace K3 := Lib.hid (K3.out.below hb); clear hb; have c3_0 := K3.out.cell 0; have c3_1 := K3.out.cell 1; have c3_2 := K3.out.cell 2; have c3_3 := K3.out.cell 3; have c3_4 := K3.out.cell 4; simp only [List.getElem?_toArray, List.getElem?_cons_succ, List.getElem?_cons_zero] at c3_0 c3_1 c3_2 c3_3 c3_4)
              | (go_at_call 18; refine (PN.out _ B5.out).mono ?_; rintro e w6 ⟨rfl, hb⟩; have B6 := Lib.hid (B5.out.trans (hb.mono B5.out.size)); replace K0 := Lib.hid (K0.out.below hb); replace K1 := Lib.hid (K1.out.below hb); replace K2 := Lib.hid (K2.out.below hb); replace K3 := Lib.hid (K3.out.below hb); clear hb; have c0_0 := K0.out.cell 0; have c0_1 := K0.out.cell 1; have c0_2 := K0.out.cell 2; have c0_3 := K0.out.cell 3; have c0_4 := K0.out.cell 4; have c0_5 := K0.out.cell 5; have c0_6 := K0.out.cell 6; have c1_0 := K1.out.cell 0; have c1_1 := K1.out.cell 1; have c1_2 := K1.out.cell 2; have c1_3 := K1.out.cell 3; have c1_4 := K1.out.cell 4; have c1_5 := K1.out.cell 5; have c1_6 := K1.out.cell 6; simp only [List.getElem?_toArray, List.getElem?_cons_succ, List.getElem?_cons_zero] at c0_0 c0_1 c0_2 c0_3 c0_4 c0_5 c0_6 c1_0 c1_1 c1_2 c1_3 c1_4 c1_5 c1_6))
            all_goals go_ret
            all_goals first
              | exact ⟨rfl, B2.out⟩
              | (refine ⟨congrArg (fun b => Ending.returned (Value.bool b)) (?_ : (_ : Bool) = _), B6.out⟩; simp only [Frm.Ask.mk.injEq, ← tl_iff] at hab; first | (simp at hab ⊢; done) | (simp at hab ⊢; exact hab) | (simp_all; done))
set_option maxRecDepth 100000 in
theorem lifted (os : Os) (started : os.Started) (H : Type) (enc : TypeId × Value → H) :
    ReturnsInHanded {} Tryd.checked os 7 .any (fun w args => (Rows.frameApartSpec.pre enc Tryd.prog Tryd.f7 [] false w args ∧ laidMetH Tryd.prog Rows.frameApartRow.laid w) ∧ sizedMet enc Tryd.prog Tryd.f7 (OpenSpec.ofChange Rows.frameApartSpec) false w args)
      (Rows.frameApartSpec.post enc Tryd.prog Tryd.f7 false true false false) := by
  refine returnsInHanded_of_change_and (C := Tryd.checked) (X := fun w _ => laidMetH Tryd.prog Rows.frameApartRow.laid w) (fun _ _ _ hh h => h.of_heap hh) own started (by kernel_rfl) Tryd.func7
    (ChangeSpec.witness_shaped (enc := enc) (C := Tryd.checked) (os := os) (X := fun w _ => laidMetH Tryd.prog Rows.frameApartRow.laid w) false (World.doorLaid Tryd.prog 400 os) #[.agg #[.int .i64 0, .int .i64 0, .int .i64 0, .int .i64 0, .string ByteArray.empty, .string ByteArray.empty, .int .i64 0], .agg #[.int .i64 0, .int .i64 0, .int .i64 0, .int .i64 0, .string ByteArray.empty, .string ByteArray.empty, .int .i64 0], .agg #[.int .i64 0, .int .i64 0, .int .i64 0, .int .i64 0, .string ByteArray.empty, .slice none 0 0, .string ByteArray.empty, .bool false], .agg #[.int .i64 0, .int .i64 0, .int .i64 0, .string ByteArray.empty, .slice none 0 0]] 8 rfl (World.shaped_of_RefB (by kernel_rfl) (by kernel_rfl)) (by kernel_rfl) (by kernel_rfl) (by kernel_rfl) (door_met os _)) ?_
  intro W base args ds gs before hval0 hW _ _ hL _
  have hval : ∀ (j : Nat) t v, Tryd.f7.params[j]? = some t → args[j]? = some v → Value.okWide Tryd.prog W .any base t v := hval0
  have hW' := hW
  obtain ⟨p, q, hA0, hV, rfl, hfz, hnd⟩ := hW
  have hA : DataW.TrodAll enc Tryd.prog W 0 (fun _ => true) true Tryd.f7.params.toList args.toList ds p := hA0
  rw [Tryd.params7] at hA hval
  obtain ⟨v0, vs0, d0, ds0, p0, q0, hargs, rfl, rfl, h0, r0⟩ := trodAll_cons hA
  obtain ⟨v1, vs1, d1, ds1, p1, q1, rfl, rfl, rfl, h1, r1⟩ := trodAll_cons r0
  obtain ⟨v2, vs2, d2, ds2, p2, q2, rfl, rfl, rfl, h2, r2⟩ := trodAll_cons r1
  obtain ⟨v3, vs3, d3, ds3, p3, q3, rfl, rfl, rfl, h3, r3⟩ := trodAll_cons r2
  obtain ⟨rfl, rfl, rfl⟩ := trodAll_nil r3
  obtain rfl : args = #[v0, v1, v2, v3] := by cases args; simp_all
  obtain ⟨rfl, rfl⟩ := trodVars_none hV
  simp only [List.append_nil] at hW'
  have hk0 := h0
  have hlt0 : ∀ x ∈ p0, x.block < W.heap.size := fun x hx => hW'.lt x (by simp [hx])
  obtain ⟨m0, S0⟩ := arg_ask (hval 0 23 v0 rfl rfl) h0
  have hk1 := h1
  have hlt1 : ∀ x ∈ p1, x.block < W.heap.size := fun x hx => hW'.lt x (by simp [hx])
  obtain ⟨m1, S1⟩ := arg_ask (hval 1 23 v1 rfl rfl) h1
  have hk2 := h2
  have hlt2 : ∀ x ∈ p2, x.block < W.heap.size := fun x hx => hW'.lt x (by simp [hx])
  obtain ⟨m2, S2⟩ := arg_rep (hval 2 27 v2 rfl rfl) h2
  have hk3 := h3
  have hlt3 : ∀ x ∈ p3, x.block < W.heap.size := fun x hx => hW'.lt x (by simp [hx])
  obtain ⟨m3, S3⟩ := arg_ntc (hval 3 30 v3 rfl rfl) h3
  have hl : LaidN W := laid_of hL
  clear hA0 hval0
  refine (walk W hl v0 m0 S0 v1 m1 S1 v2 m2 S2 v3 m3 S3).mono fun e W' ⟨he, bel⟩ => ?_
  subst he
  exact ⟨_, rfl, _, _, _, [], _, [], hW', trodAll_mk1 (shut_bool Tryd.underlying4 _), (trodAll_cons_mk (Below.trod laidOut (by kernel_rfl) (of_decide_eq_true (by kernel_rfl)) hk0 bel hlt0) (trodAll_cons_mk (Below.trod laidOut (by kernel_rfl) (of_decide_eq_true (by kernel_rfl)) hk1 bel hlt1) (trodAll_cons_mk (Below.trod laidOut (by kernel_rfl) (of_decide_eq_true (by kernel_rfl)) hk2 bel hlt2) (trodAll_cons_mk (Below.trod laidOut (by kernel_rfl) (of_decide_eq_true (by kernel_rfl)) hk3 bel hlt3) trodAll_mk0)))), rfl, bel.frame _, fun h => by cases h⟩
theorem over : Rows.FrameApartSaid :=
  OpenClaim.holds_of_wide 7 Tryd.f7 rfl rfl rfl rfl rfl rfl rfl ⟨rfl, rfl, rfl, rfl, rfl⟩ rfl rfl rfl rfl rfl (by kernel_rfl) Tryd.func7 (by kernel_rfl)
    (of_decide_eq_true (by kernel_rfl)) (by unfold Func.isWrapper; rw [if_neg (by decide +kernel)]; exact ⟨rfl, rfl⟩)
    (fun os started H enc _ => lifted os started H enc)
theorem proved : Rows.FrameApartCardSaid :=
  Claim7.holds_tied_plain_at .later [] [.handle] true Rows.frameApartCard.stood.harness true
    over (fun _ h => by cases h) (by kernel_rfl) (fun _ h => by cases h) frameApart_row_tie rfl ⟨rfl, rfl⟩ (by kernel_rfl) rfl
    (fun f fn hf hfn => by
      obtain rfl : f = 7 := Option.some.inj ((show Tryd.prog.funcNamed "guilloche/guillochelaw16.FrameApart" = some 7 by kernel_rfl).symm.trans hf) |>.symm
      obtain rfl : fn = Tryd.f7 := (Option.some.inj (Tryd.func7.symm.trans hfn)).symm
      exact ⟨by kernel_rfl, fun j t ht => by
        rw [Tryd.params7] at ht
        have hm : t ∈ [23, 23, 27, 30] := by simpa using Array.mem_of_getElem? ht
        have hall : ([23, 23, 27, 30].all fun u => !Tryd.prog.wantsStandIn u) = true := by kernel_rfl
        exact (show Tryd.prog.wantsStandIn t = false by simpa using List.all_eq_true.1 hall t hm)⟩)
    (by kernel_rfl)
end Go.Proofs.YtlbebdkockejcaaDoor.frameApart
